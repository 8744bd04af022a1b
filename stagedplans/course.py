"""Plans that run."""

from stagedplans.errors import InvalidLetter, NothingToUndo
from stagedplans.harm import more_hurt, period_harm, period_hurt
from stagedplans.moves import state_in_place
from stagedplans.periods import counts_in, first_state, next_state, stays_on
from stagedplans.plans import check_plan, check_same_shape, is_plan, letter_of
from stagedplans.signals import are_letters, is_letter
from stagedplans.texts import parse_plan


class Course:
    """A plan that runs, period by period, and may be changed while it runs."""

    GRADES = 3

    def __init__(self, plan):
        check_plan(plan)
        self._plan = plan
        self._state = first_state(plan)
        self._letters = []
        # The stay is the last ones of all letters, also behind changes of the plan.
        self._stay = 0
        self._harm = 0
        self._hurt = tuple([0 for _ in plan[0]])
        # For each call that can be undone, its word and what it changed but for the letters.
        self._past = []

    def feed(self, letter):
        """End a period with a letter, and return the list of the open counts behind it."""
        if not is_letter(letter, len(self._plan[1])):
            raise InvalidLetter()
        self._keep("feed")
        state = self._state
        self._hurt = tuple(more_hurt(self._hurt, period_hurt(self._plan, state, letter)))
        self._state, self._harm = self._led(state, self._harm, letter)
        self._stay = self._stay + 1 if stays_on(state, self._state) else 0
        self._letters.append(letter)
        return counts_in(self._plan, self._state)

    def feed_readings(self, readings):
        """End a period with the letter of a list of readings, and return the list of the open counts."""
        return self.feed(letter_of(self._plan, readings))

    def edit(self, plan):
        """Put a new plan in the place of the one that runs, and return the word of the new state."""
        self._check_new(plan)
        self._keep("edit")
        self._state = state_in_place(plan, self._state, self._letters[len(self._letters) - self._stay:])
        self._plan = plan
        return self._state[0]

    def undo(self):
        """Take back the latest call that has not been undone, and return its word."""
        if len(self._past) == 0:
            raise NothingToUndo()
        word, self._plan, self._state, self._stay, self._harm, self._hurt = self._past.pop()
        if word == "feed":
            self._letters.pop()
        return word

    def try_letters(self, *letters):
        """Return the list of the words of the states behind one letter, two letters and so on."""
        if not are_letters(list(letters), len(self._plan[1])):
            raise InvalidLetter()
        state, harm = self._state, self._harm
        words = []
        for letter in letters:
            state, harm = self._led(state, harm, letter)
            words.append(state[0])
        return words

    def told_words(self):
        """Return the list of the strings that tell the course."""
        return [f"periods {len(self._letters)}", f"harm {self._harm}"]

    def __len__(self):
        """Return the number of calls that can be undone."""
        return len(self._past)

    @property
    def plan_now(self):
        """Return the plan that runs."""
        return self._plan

    @property
    def state_now(self):
        """Return the state of the plan."""
        return self._state

    @property
    def letters_now(self):
        """Return the list of all letters."""
        return list(self._letters)

    @property
    def harm_now(self):
        """Return the sum of the harm of all periods."""
        return self._harm

    @property
    def hurt_now(self):
        """Return the tuple, by regions, of the numbers of users that have been hurt."""
        return self._hurt

    @classmethod
    def read(cls, text):
        """Return an object with the plan of a text."""
        return cls(parse_plan(text))

    @staticmethod
    def is_valid(value):
        """Tell whether any value is a plan."""
        return is_plan(value)

    def _keep(self, word):
        """Keep what a call with a word is about to change."""
        self._past.append((word, self._plan, self._state, self._stay, self._harm, self._hurt))

    def _check_new(self, plan):
        """Raise an error for a plan that cannot take the place of the one that runs."""
        check_plan(plan)
        check_same_shape(self._plan, plan)

    def _led(self, state, harm, letter):
        """Return the state behind a period that begins in a state, and the harm so far with it."""
        return next_state(self._plan, state, letter), harm + period_harm(self._plan, state, letter)
