"""Point [15]: logs."""

import unittest

from stagedplans.errors import InvalidRows, NotAPlan
from stagedplans.logs import followed, log_fault
from tests.helper import BIG, Case, Model, NOT_INTEGERS, NOT_PLANS, P, R, some_plans
from tests.test_states import NOT_LETTERS

RIGHT = [((1,), (90, 0)), ((1,), (900, 5)), ((2,), (900, 5)), ((2,), (0, 0)), ((1,), (0, 0))]


def right_rows(plan, letters):
    model = Model(plan)
    rows = []
    for letter in letters:
        model.feed(letter)
        rows.append((letter, tuple(model.counts())))
    return rows


class Logs(Case):
    def test_right_rows(self):
        rows = [((1,), (90, 0)), ((1,), (900, 5)), ((0,), (900, 5))]
        self.assertIsNone(log_fault(P, rows))
        self.assertEqual(("done", ()), followed(P, rows))

    def test_no_rows(self):
        self.assertIsNone(log_fault(P, []))
        self.assertEqual(("open", 0, 0, (), (), 1), followed(P, []))

    def test_first_wrong_row(self):
        self.assertEqual((0, (90, 0)), log_fault(P, [((1,), (90, 1))]))
        self.assertEqual(("open", 0, 0, (), (), 1), followed(P, [((1,), (90, 1))]))
        rows = [((1,), (90, 0)), ((1,), (90, 0)), ((1,), (7, 7))]
        self.assertEqual((1, (900, 5)), log_fault(P, rows))
        self.assertEqual(("open", 0, 1, ((1,),), (), 1), followed(P, rows))

    def test_rows_behind_the_first_wrong_one_do_not_count(self):
        rows = [((1,), (0, 0)), ((1,), (900, 5))]
        self.assertEqual((0, (90, 0)), log_fault(P, rows))
        self.assertEqual(("open", 0, 0, (), (), 1), followed(P, rows))

    def test_counts_are_those_behind_the_period(self):
        self.assertEqual((1, (900, 5)), log_fault(P, [((1,), (90, 0)), ((1,), (90, 0))]))
        self.assertIsNone(log_fault(P, [((2,), (90, 0)), ((2,), (0, 0)), ((2,), (0, 0))]))
        self.assertEqual(("stopped",), followed(P, [((2,), (90, 0)), ((2,), (0, 0)), ((2,), (0, 0))]))

    def test_dropped_region(self):
        rows = [((1, 2), (10, 0)), ((0, 2), (50, 0)), ((2, 0), (50, 0))]
        self.assertIsNone(log_fault(R, rows))
        self.assertEqual(("done", (1,)), followed(R, rows))
        self.assertEqual((0, (10, 0)), log_fault(R, [((1, 2), (10, 20))]))

    def test_counts_may_be_any_integers(self):
        for told in ((-1, 0), (90, -5), (10 ** 40 - 1, 0), (90, 1 - 10 ** 40), (0, 90), (91, 0), (89, 0)):
            with self.subTest(told):
                self.assertEqual((0, (90, 0)), log_fault(P, [((1,), told)]))
                self.assertEqual(("open", 0, 0, (), (), 1), followed(P, [((1,), told)]))

    def test_against_the_model(self):
        for seed, plan in enumerate((P, R, *some_plans(8, 60))):
            number = len(plan[1])
            letters = [tuple((seed + at * at + signal) % 3 for signal in range(number)) for at in range(9)]
            rows = right_rows(plan, letters)
            self.assertIsNone(log_fault(plan, rows))
            model = Model(plan)
            for at, (letter, told) in enumerate(rows):
                for region in range(len(told)):
                    wrong = list(told)
                    wrong[region] += 1
                    changed_rows = rows[:at] + [(letter, tuple(wrong))] + rows[at + 1:]
                    self.assertEqual((at, told), log_fault(plan, changed_rows))
                    self.assertEqual(model.state(), followed(plan, changed_rows))
                model.feed(letter)
            self.assertEqual(model.state(), followed(plan, rows))

    def test_two_hundred_rows(self):
        rows = RIGHT + [((1,), (0, 0))] * 195
        self.assertEqual((3, (900, 5)), log_fault(P, rows))
        rows = right_rows(R, [(1, 0)] * 200)
        self.assertIsNone(log_fault(R, rows))

    def test_arguments_by_name_that_do_not_change(self):
        rows = list(RIGHT)
        self.assertEqual((3, (900, 5)), log_fault(rows=rows, plan=P))
        self.assertEqual(("done", ()), followed(rows=rows, plan=P))
        self.assertEqual(RIGHT, rows)


class WrongArguments(Case):
    def wrong_rows(self, *wrongs):
        for wrong in wrongs:
            with self.subTest(wrong):
                self.fails(InvalidRows, log_fault, R, wrong)
                self.fails(InvalidRows, followed, R, wrong)

    def test_plan(self):
        for wrong in NOT_PLANS:
            with self.subTest(wrong):
                self.fails(NotAPlan, log_fault, wrong, [])
                self.fails(NotAPlan, followed, wrong, [])
                self.fails(NotAPlan, log_fault, wrong, None)
                self.fails(NotAPlan, followed, wrong, None)

    def test_no_list(self):
        self.wrong_rows(*[value for value in NOT_INTEGERS if value != []])
        self.wrong_rows((((1, 1), (10, 20)),), {((1, 1), (10, 20)): 1}, ((1, 1), (10, 20)))

    def test_rows(self):
        row = ((1, 1), (10, 20))
        wrongs = [*NOT_INTEGERS, list(row), (row,), row[:1], (*row, 1), ((10, 20), (1, 1))]
        wrongs += [(wrong, (10, 20)) for wrong in NOT_LETTERS]
        wrongs += [((1, 1), wrong) for wrong in (
            *NOT_INTEGERS, (10,), (10, 20, 0), [10, 20], (10, True), (False, 20), (None, 20), (10, 20.0), ("10", "20"), "12",
        )]
        for wrong in wrongs:
            self.wrong_rows([wrong], [row, wrong], [wrong, row], [((1, 1), (BIG, 0)), row, wrong])

    def test_wrong_rows_tell_ahead_of_a_fault(self):
        self.wrong_rows([((1, 1), (0, 0)), None])


if __name__ == "__main__":
    unittest.main()
