"""Plans and histories as texts."""

from stagedplans.checks import is_filled_tuple
from stagedplans.errors import InvalidLetters, InvalidText
from stagedplans.plans import check_plan, is_plan
from stagedplans.signals import are_letters

# The grades stand at their indexes.
GRADE_WORDS = ("none", "good", "bad")
GRADE_SIGNS = "012"


def format_plan(plan):
    """Return the text of a plan."""
    check_plan(plan)
    regions, signals, stages, tries = plan
    parts = [
        *[row_text("region", region) for region in regions],
        *[row_text("signal", signal) for signal in signals],
        *[stage_text(stage) for stage in stages],
        row_text("tries", (tries,)),
    ]
    return "; ".join(parts)


def parse_plan(text):
    """Return the plan of a text."""
    if not isinstance(text, str):
        raise InvalidText()
    plan = value_of(text)
    if not is_plan(plan):
        raise InvalidText()
    return plan


def format_history(letters):
    """Return the text of a history."""
    if not is_history(letters):
        raise InvalidLetters()
    return " ".join(["".join([GRADE_SIGNS[grade] for grade in letter]) for letter in letters])


def parse_history(text):
    """Return the history of a text."""
    if not isinstance(text, str):
        raise InvalidText()
    if text == "":
        return []
    # What is no sign of a grade is found nowhere, and leads to no grade.
    letters = [tuple([GRADE_SIGNS.find(sign) for sign in word]) for word in text.split(" ")]
    if not is_history(letters):
        raise InvalidText()
    return letters


def is_history(value):
    """Tell whether any value is a list of filled tuples of grades of one length."""
    if not isinstance(value, list):
        return False
    if len(value) == 0:
        return True
    return is_filled_tuple(value[0]) and are_letters(value, len(value[0]))


def row_text(word, numbers):
    """Return a word and some numbers with one space between them."""
    return " ".join([word, *[str(number) for number in numbers]])


def stage_text(stage):
    """Return the part of a stage."""
    shares, hold, needs, guards = stage
    return " ".join([
        row_text("stage", shares),
        row_text("hold", (hold,)),
        *["need " + condition_text(need) for need in needs],
        *["guard " + condition_text(condition) + " " + row_text(action[0], action[1:]) for condition, action in guards],
    ])


def condition_text(condition):
    """Return the words of a condition."""
    signal, grade, number, window = condition
    return f"{signal} {GRADE_WORDS[grade]} {number} of {window}"


def value_of(text):
    """Return the plan of a text, or a value that is no plan."""
    rows = [part.split(" ") for part in text.split("; ")]
    names = [row[0] for row in rows]
    regions, signals, stages = names.count("region"), names.count("signal"), names.count("stage")
    if names != [*["region"] * regions, *["signal"] * signals, *["stage"] * stages, "tries"]:
        return None
    numbers = [numbers_of(row[1:]) for row in rows[:regions + signals]]
    tries = numbers_of(rows[-1][1:])
    if tries is None or len(tries) != 1:
        return None
    told = tuple([stage_of(row) for row in rows[regions + signals:-1]])
    return (tuple(numbers[:regions]), tuple(numbers[regions:]), told, tries[0])


def numbers_of(words):
    """Return the tuple of the integers from 0 on that some words write, or None."""
    if not all([is_number(word) for word in words]):
        return None
    return tuple([int(word) for word in words])


def is_number(word):
    """Tell whether a word writes an integer from 0 on."""
    return word.isdigit() and word.isascii() and (word[0] != "0" or word == "0")


def stage_of(words):
    """Return the stage of the words of a part, or a value that is no stage."""
    if "hold" not in words:
        return None
    at = words.index("hold")
    shares, hold = numbers_of(words[1:at]), numbers_of(words[at + 1:at + 2])
    if shares is None or hold is None or len(hold) == 0:
        return None
    at += 2
    needs = []
    while words[at:at + 1] == ["need"]:
        needs.append(condition_of(words[at + 1:at + 6]))
        at += 6
    guards = []
    while words[at:at + 1] == ["guard"]:
        many = 1 if words[at + 6:at + 7] == ["stop"] else 2
        guards.append((condition_of(words[at + 1:at + 6]), action_of(words[at + 6:at + 6 + many])))
        at = at + 6 + many
    return (shares, hold[0], tuple(needs), tuple(guards)) if at == len(words) else None


def condition_of(words):
    """Return the condition of some words, or None."""
    if len(words) != 5 or words[1] not in GRADE_WORDS or words[3] != "of":
        return None
    numbers = numbers_of([words[0], words[2], words[4]])
    if numbers is None:
        return None
    signal, number, window = numbers
    return (signal, GRADE_WORDS.index(words[1]), number, window)


def action_of(words):
    """Return the action of some words, or a value that is none."""
    numbers = numbers_of(words[1:])
    return None if len(words) == 0 or numbers is None else (words[0], *numbers)
