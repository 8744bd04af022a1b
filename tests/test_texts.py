"""Point [33]: plans and histories as texts."""

import random
import unittest

from stagedplans.errors import InvalidLetters, InvalidText, NotAPlan
from stagedplans.plans import is_plan
from stagedplans.texts import format_history, format_plan, parse_history, parse_plan
from tests.helper import BIG, Case, NOT_INTEGERS, NOT_PLANS, P, R, at_once, changed, histories_of, some_plans
from tests.test_states import one_signal

P_TEXT = (
    "region 1000 7 3 100; region 10 3 0 0; signal 0 20 50 1; "
    "stage 100 0 hold 2 need 0 good 2 of 2 guard 0 bad 1 of 1 back 0; "
    "stage 1000 500 hold 1 guard 0 bad 2 of 2 stop; tries 1"
)
R_TEXT = (
    "region 100 3 1 0; region 50 7 2 10; signal 0 10 20 2; signal 1 10 20 3; "
    "stage 100 500 hold 2 need 0 good 1 of 2 need 1 good 2 of 2 guard 1 bad 1 of 1 drop 1; "
    "stage 500 500 hold 1 guard 0 bad 2 of 2 stop; tries 0"
)
SMALL = "region 1 1 0 0; signal 0 0 1 0; stage 0 hold 1; tries 0"
HUNDRED = 10 ** 100 - 1
NOT_TEXTS = tuple(value for value in NOT_INTEGERS if not isinstance(value, str)) + (0, 1, P, [SMALL], (SMALL,), SMALL.encode())


class FormatPlan(Case):
    def test_document(self):
        self.assertEqual(P_TEXT, format_plan(P))
        self.assertEqual(R_TEXT, format_plan(R))

    def test_parts(self):
        self.assertEqual(SMALL, format_plan((((1, 1, 0, 0),), ((0, 0, 1, 0),), (((0,), 1, (), ()),), 0)))
        plan = one_signal(((500,), 3, ((0, 0, 1, 4), (0, 2, 3, 3)), (
            ((0, 0, 1, 1), ("stop",)), ((0, 1, 1, 2), ("back", 0)), ((0, 2, 2, 3), ("drop", 0)),
        )), tries=7)
        self.assertEqual(
            "region 10 3 4 2; signal 0 20 5 1; stage 500 hold 3 need 0 none 1 of 4 need 0 bad 3 of 3 "
            "guard 0 none 1 of 1 stop guard 0 good 1 of 2 back 0 guard 0 bad 2 of 3 drop 0; tries 7",
            format_plan(plan),
        )

    def test_by_name(self):
        self.assertEqual(P_TEXT, format_plan(plan=P))
        self.assertEqual(P, parse_plan(text=P_TEXT))
        self.assertEqual("10 02", format_history(letters=[(1, 0), (0, 2)]))
        self.assertEqual([(1, 0), (0, 2)], parse_history(text="10 02"))


class BothWays(Case):
    def test_some_plans(self):
        for plan in some_plans(120, 150, signals=3):
            text = format_plan(plan)
            self.assertEqual(plan, parse_plan(text))
            self.assertEqual(text, format_plan(parse_plan(text)))

    def test_numbers_of_a_hundred_digits(self):
        plan = (
            ((HUNDRED, HUNDRED - 1, HUNDRED - 1, HUNDRED),), ((0, 1000, HUNDRED, HUNDRED),),
            (((1000,), HUNDRED, ((0, 2, HUNDRED, HUNDRED),), (((0, 0, 1, HUNDRED), ("back", 0)),)),), HUNDRED,
        )
        self.assertIs(True, is_plan(plan))
        self.assertEqual(plan, parse_plan(format_plan(plan)))
        self.assertEqual(9, format_plan(plan).count(str(HUNDRED)))

    def test_twenty_elements(self):
        condition = (19, 1, 3, 10 ** 29)
        stage = ((5,) * 20, BIG, (condition,) * 20, ((condition, ("drop", 19)), (condition, ("back", 0))) * 10)
        plan = (((10, 3, 4, 2),) * 20, ((19, 20, 5, 1),) * 20, (stage,) * 20, BIG)
        self.assertIs(True, is_plan(plan))
        with at_once(10):
            for _ in range(10):
                self.assertEqual(plan, parse_plan(format_plan(plan)))

    def test_three_thousand_characters(self):
        plan = parse_plan(P_TEXT)
        while len(format_plan((*plan[:2], plan[2] + P[2][1:], plan[3]))) <= 3000:
            plan = (*plan[:2], plan[2] + P[2][1:], plan[3])
        text = format_plan(plan)
        self.assertGreater(len(text), 2900)
        with at_once(10):
            for _ in range(300):
                self.assertEqual(plan, parse_plan(text))

    def test_new_values(self):
        self.assertIsNot(parse_history("10 02"), parse_history("10 02"))
        self.gives_new_lists(parse_history, "10 02")
        self.gives_new_lists(parse_history, "")
        letters = [(1, 0), (0, 2)]
        format_history(letters)
        self.assertEqual([(1, 0), (0, 2)], letters)


class ParsePlan(Case):
    def none(self, text):
        with self.subTest(text):
            self.fails(InvalidText, parse_plan, text)

    def test_no_strings(self):
        for value in NOT_TEXTS:
            self.none(value)

    def test_one_space_too_many(self):
        for text in (P_TEXT, R_TEXT, SMALL):
            for at in range(len(text) + 1):
                self.none(text[:at] + " " + text[at:])

    def test_one_character_too_few(self):
        for text in (P_TEXT, SMALL):
            for at, sign in enumerate(text):
                if not sign.isdigit():
                    self.none(text[:at] + text[at + 1:])

    def test_one_character_more(self):
        for at in range(len(SMALL) + 1):
            for sign in ("\n", ";", "-", "+", ".", "_", "a", "\t", "\u0660", "\u00b2", "0x", ",", "; ", "\r\n", "\x00"):
                self.none(SMALL[:at] + sign + SMALL[at:])

    def test_other_characters(self):
        for at, sign in enumerate(SMALL):
            for other in ("\n", "\t", ";", "\u0661", "\u2003", "\u00a0", "-", sign.upper() if sign.islower() else "."):
                if other != sign:
                    self.none(SMALL[:at] + other + SMALL[at + 1:])

    def test_leading_zeros_and_signs(self):
        words = P_TEXT.split(" ")
        for at, word in enumerate(words):
            if word.strip(";").isdigit():
                for other in ("0" + word, "00" + word, "-" + word, "+" + word, word.replace(word.strip(";"), ""), " " + word):
                    self.none(" ".join([*words[:at], other, *words[at + 1:]]))
                for other in ("1_0", "1.0", "0x1", "1e1", "one", "None", "True", "\u0661"):
                    self.none(" ".join([*words[:at], word.replace(word.strip(";"), other), *words[at + 1:]]))

    def test_words_left_out_or_twice(self):
        for text in (P_TEXT, R_TEXT):
            words = text.split(" ")
            for at in range(len(words)):
                self.none(" ".join(words[:at] + words[at + 1:]))
                self.none(" ".join(words[:at + 1] + words[at:]))

    def test_other_words(self):
        for word, others in (
            ("region", ("regions", "Region", "REGION", "signal", "r")), ("signal", ("signals", "Signal", "region", "stage")),
            ("stage", ("Stage", "stages", "signal", "tries")), ("hold", ("holds", "Hold", "need", "0")),
            ("need", ("needs", "Need", "guard", "hold")), ("guard", ("guards", "Guard", "need")), ("of", ("Of", "in", "0", "/")),
            ("good", ("Good", "1", "fine", "goods", "none ")), ("bad", ("Bad", "2", "BAD")), ("back", ("Back", "backs", "stop", "go")),
            ("stop", ("Stop", "stops", "stop 0", "back", "drop")), ("tries", ("Tries", "try", "trie", "tries 0")),
        ):
            for other in others:
                at = P_TEXT.index(word)
                self.none(P_TEXT[:at] + other + P_TEXT[at + len(word):])
        at = R_TEXT.index("drop")
        for other in ("Drop", "stop", "drops", "drop 1 drop", "stop 1 back"):
            self.none(R_TEXT[:at] + other + R_TEXT[at + 4:])

    def test_parts_in_another_order_or_left_out(self):
        parts = R_TEXT.split("; ")
        for at in range(len(parts)):
            left = parts[:at] + parts[at + 1:]
            if left not in ([parts[0], *parts[2:]], [*parts[:3], *parts[4:]], [*parts[:4], *parts[5:]], [*parts[:5], parts[6]]):
                self.none("; ".join(left))
            for other in range(len(parts)):
                if parts[at].split(" ")[0] != parts[other].split(" ")[0]:
                    swapped = list(parts)
                    swapped[at], swapped[other] = parts[other], parts[at]
                    self.none("; ".join(swapped))
        self.none("; ".join(parts[::-1]))
        self.none("; ".join(parts[:-1]))
        self.none("; ".join(parts[1:]))
        self.none("; ".join([*parts, "tries 0"]))
        self.none("; ".join(["tries 0", *parts]))
        self.none("; ".join([*parts, ""]))
        self.none("; ".join(["", *parts]))
        self.none("; ".join([*parts, parts[0]]))

    def test_needs_behind_guards(self):
        self.none(SMALL.replace("hold 1", "hold 1 guard 0 bad 1 of 1 stop need 0 good 1 of 1"))
        self.none(SMALL.replace("hold 1", "need 0 good 1 of 1 hold 1"))
        self.none(SMALL.replace("stage 0 hold 1", "stage hold 1 0"))
        self.assertEqual(2, len(parse_plan(SMALL.replace("hold 1", "hold 1 need 0 good 1 of 1 guard 0 bad 1 of 1 stop"))[2][0][2:]))

    def test_conditions_and_actions_that_are_cut(self):
        whole = "hold 1 need 0 good 1 of 1 need 0 bad 1 of 2 guard 0 bad 1 of 1 back 0 guard 0 bad 1 of 3 stop"
        parse_plan(SMALL.replace("hold 1", whole))
        words = whole.split(" ")
        right = (2, 8, 14, 22, 29)
        for length in range(len(words)):
            text = SMALL.replace("hold 1", " ".join(words[:length]))
            if length in right:
                self.assertEqual(text, format_plan(parse_plan(text)))
            else:
                self.none(text)

    def test_ends(self):
        for text in (P_TEXT, SMALL):
            for more in ("\n", " ", ";", "; ", "; tries 1", " 0", "\n\n", "."):
                self.none(text + more)
            for more in ("\n", " ", ";", "; ", "plan ", "\ufeff"):
                self.none(more + text)
        for text in ("", " ", "; ", ";", "\n", "tries 0", "region", "region 1 1 0 0", "None", "()", "stage 0 hold 1; tries 0"):
            self.none(text)

    def test_texts_of_the_right_form_that_write_no_plan(self):
        for at, other in (
            ("region 1 1 0 0", "region 0 0 0 0"), ("region 1 1 0 0", "region 1 0 0 0"), ("region 1 1 0 0", "region 1 1 1 0"),
            ("region 1 1 0 0", "region 1 1 0 2"), ("region 1 1 0 0", "region 4 2 0 0"), ("region 1 1 0 0", "region 5 6 0 0"),
            ("signal 0 0 1 0", "signal 1 0 1 0"), ("signal 0 0 1 0", "signal 0 1001 1 0"), ("signal 0 0 1 0", "signal 0 0 0 0"),
            ("stage 0 hold", "stage 1001 hold"), ("stage 0 hold", "stage hold"), ("stage 0 hold", "stage 0 0 hold"), ("hold 1", "hold 0"),
            ("hold 1", "hold 1 need 1 good 1 of 1"), ("hold 1", "hold 1 need 0 good 0 of 1"), ("hold 1", "hold 1 need 0 good 2 of 1"),
            ("hold 1", "hold 1 guard 1 bad 1 of 1 stop"), ("hold 1", "hold 1 guard 0 bad 1 of 0 stop"),
            ("hold 1", "hold 1 guard 0 bad 1 of 1 back 1"), ("hold 1", "hold 1 guard 0 bad 1 of 1 drop 1"),
            ("region 1 1 0 0", "region 1 1 0 0; region 1 1 0 0"), ("region 1 1 0 0", "region 1 1 0"), ("region 1 1 0 0", "region 1 1 0 0 0"),
            ("signal 0 0 1 0", "signal 0 0 1"), ("signal 0 0 1 0", "signal 0 0 1 0 0"), ("tries 0", "tries"), ("tries 0", "tries 0 0"),
        ):
            self.assertIn(at, SMALL)
            self.none(SMALL.replace(at, other))

    def test_only_what_is_written(self):
        # Of all texts near one of a plan only those are read that are written again just so.
        source = random.Random(121)
        read = 0
        for _ in range(4000):
            signs = list(source.choice((SMALL, P_TEXT, R_TEXT)))
            for _ in range(source.randint(1, 2)):
                at = source.randrange(len(signs))
                signs[at:at + source.randrange(2)] = source.choice(("0", "1", "2", "9", " ", ";", "a", "", "good", "bad"))
            text = "".join(signs)
            try:
                plan = parse_plan(text)
            except InvalidText:
                continue
            read += 1
            self.assertEqual(text, format_plan(plan))
        self.assertGreater(read, 100)


class Histories(Case):
    def test_texts(self):
        for letters, text in (
            ([], ""), ([(0,)], "0"), ([(2,), (0,), (1,)], "2 0 1"), ([(1, 0), (0, 2)], "10 02"), ([(0, 1, 2)] * 3, "012 012 012"),
            ([(2,) * 8], "22222222"),
        ):
            with self.subTest(text):
                self.assertEqual(text, format_history(letters))
                self.assertEqual(letters, parse_history(text))

    def test_both_ways(self):
        for number in (1, 2, 3):
            for periods in range(4 if number < 3 else 2):
                for letters in histories_of(number, periods):
                    self.assertEqual(letters, parse_history(format_history(letters)))

    def test_long(self):
        source = random.Random(122)
        with at_once(10):
            for number in (1, 2, 8, 13):
                letters = [tuple(source.randrange(3) for _ in range(number)) for _ in range(200)]
                for _ in range(100):
                    self.assertEqual(letters, parse_history(format_history(letters)))

    def test_no_histories(self):
        wrongs = [value for value in NOT_INTEGERS if value != []] + ["10 02", ((1, 0),), (1, 0), {(1, 0): 1}]
        letters = [
            *NOT_INTEGERS, [1, 0], (3, 0), (0, -1), (True, 0), (0, False), (0, None), (1.0, 0), ("1", "0"), "10", (1,), (1, 0, 0), ((1, 0),),
        ]
        wrongs += [[letter] for letter in letters if letter not in ((1,), (1, 0, 0))]
        wrongs += [[(1, 0), letter] for letter in letters] + [[letter, (1, 0)] for letter in letters] + [[(1, 0), letter, (1, 0)] for letter in letters]
        for wrong in wrongs:
            with self.subTest(wrong):
                kept = repr(wrong)
                self.fails(InvalidLetters, format_history, wrong)
                self.assertEqual(kept, repr(wrong))

    def test_no_texts(self):
        wrongs = [
            *NOT_TEXTS, [], [(1, 0)], " ", "  ", "\n", "10 02\n", "\n10", " 10", "10 ", "10  02", "10 0", "1 02", "0 0 00", "3", "13 00",
            "-1", "1 -1", "a", "none", "1,0", "10;02", "1\t0", "1\n0", "10 \u0660\u0661", "\u00b2", "1.0", "(1, 0)", "[]", "10 02 ", "00 0a",
        ]
        for wrong in wrongs:
            with self.subTest(wrong):
                self.fails(InvalidText, parse_history, wrong)


class WrongArguments(Case):
    def test_plan(self):
        for wrong in (*NOT_PLANS, P_TEXT, changed(P, (2, 0, 1), 0), changed(P, (2, 0, 1), True)):
            with self.subTest(wrong):
                self.fails(NotAPlan, format_plan, wrong)


if __name__ == "__main__":
    unittest.main()
