"""Point [14]: harm and hurt users."""

import unittest

from stagedplans.errors import InvalidLetters, InvalidUser, NoRegion, NotAPlan
from stagedplans.harm import harm_of, hurt_of, user_hurt
from tests.helper import BIG, Case, Model, NOT_INTEGERS, NOT_PLANS, P, R, changed, histories_of, some_plans
from tests.test_plans import GREATEST
from tests.test_states import NOT_LETTERS, two_regions

STOP = (((0, 2, 1, 1), ("stop",)),)


def model_harm(plan, letters):
    """Return the harm, the hurt users of each region, and the first period of each of them."""
    model = Model(plan)
    harm = 0
    firsts = [{} for _ in plan[0]]
    for at, letter in enumerate(letters):
        harm += model.harm(letter)
        for region, first in enumerate(firsts):
            for user in range(plan[0][region][0]):
                if model.hurts(letter, region, user):
                    first.setdefault(user, at)
        model.feed(letter)
    return harm, [len(first) for first in firsts], firsts


class Examples(Case):
    def test_document(self):
        letters = [(2,), (1,), (1,), (2,)]
        self.assertEqual(990, harm_of(P, letters))
        self.assertEqual([900, 0], hurt_of(P, letters))

    def test_arguments_by_name(self):
        letters = [(2,), (1,), (1,), (2,)]
        self.assertEqual(990, harm_of(letters=letters, plan=P))
        self.assertEqual([900, 0], hurt_of(letters=letters, plan=P))
        self.assertIsNone(user_hurt(user=0, region=1, letters=letters, plan=P))

    def test_no_letters(self):
        self.assertEqual(0, harm_of(P, []))
        self.assertEqual([0, 0], hurt_of(P, []))
        self.assertIsNone(user_hurt(P, [], 0, 0))


class Harm(Case):
    def test_price_times_count_of_each_bad_signal(self):
        signals = ((0, 20, 5, 3), (0, 20, 5, 4), (1, 20, 5, 10))
        plan = (((10, 3, 4, 2), (7, 3, 2, 0)), signals, (((500, 1000), 5, (), ()),), 0)
        for letter, due in (
            ((2, 0, 0), 12), ((1, 2, 1), 16), ((0, 0, 2), 70), ((2, 2, 0), 28), ((2, 2, 2), 98), ((1, 0, 1), 0),
        ):
            with self.subTest(letter):
                self.assertEqual(due, harm_of(plan, [letter]))
                self.assertEqual(2 * due, harm_of(plan, [letter, (0, 1, 0), letter]))

    def test_harm_is_that_of_the_state_at_the_beginning(self):
        plan = two_regions(((500, 500), 1, (), ()), ((1000, 1000), 1, (), STOP))
        self.assertEqual(4, harm_of(plan, [(2, 0)]))
        self.assertEqual(12, harm_of(plan, [(2, 0), (2, 0)]))
        self.assertEqual(12, harm_of(plan, [(2, 0), (2, 0), (2, 2)]))
        self.assertEqual([8, 0], hurt_of(plan, [(2, 0), (2, 0), (2, 2)]))

    def test_no_harm_in_done_and_stopped_plans(self):
        plan = two_regions(((500, 500), 1, (), STOP))
        self.assertEqual(0, harm_of(plan, [(1, 1), (2, 2)]))
        self.assertEqual([0, 0], hurt_of(plan, [(1, 1), (2, 2)]))
        self.assertIsNone(user_hurt(plan, [(1, 1), (2, 2)], 0, 2))
        self.assertEqual(4, harm_of(plan, [(2, 0), (2, 2)]))
        self.assertEqual([4, 0], hurt_of(plan, [(2, 0), (2, 2)]))

    def test_no_harm_in_dropped_regions(self):
        letters = [(1, 2), (1, 2), (2, 2)]
        self.assertEqual(20 * 3 + 50 * 2, harm_of(R, letters))
        self.assertEqual([50, 20], hurt_of(R, letters))

    def test_users_are_hurt_at_any_price(self):
        plan = changed(changed(P, (1, 0, 3), 0), (1, 0, 0), 1)
        letters = [(1,), (1,), (2,)]
        self.assertEqual(0, harm_of(plan, letters))
        self.assertEqual([0, 5], hurt_of(plan, letters))
        self.assertEqual(2, user_hurt(plan, letters, 1, 0))
        self.assertIsNone(user_hurt(plan, letters, 0, 0))

    def test_greatest_count_of_the_bad_periods(self):
        stage = ((0, 0), 1, (), ())
        plan = two_regions(*[changed(stage, (0,), shares) for shares in ((1000, 300), (500, 1000), (250, 0))])
        for letters, due in (
            ([(2, 0), (2, 2), (2, 2)], [8, 7]), ([(0, 2), (2, 0), (2, 2)], [4, 2]), ([(1, 1), (1, 1), (2, 2)], [2, 0]),
        ):
            with self.subTest(letters):
                self.assertEqual(due, hurt_of(plan, letters))

    def test_thirty_digits(self):
        letters = [(0, 2, 0), (2, 0, 0)]
        self.assertEqual(0, harm_of(GREATEST, letters))
        plan = changed(changed(GREATEST, (1, 0, 0), 1), (1, 2, 0), 1)
        self.assertEqual(BIG * BIG, harm_of(plan, [(2, 0, 1)]))
        self.assertEqual(3 * BIG * BIG, harm_of(plan, [(2, 0, 1), (2, 0, 2)]))
        self.assertEqual([0, BIG, 0, 0], hurt_of(plan, [(0, 0, 2)]))
        self.assertEqual(0, user_hurt(plan, [(0, 0, 2)], 1, BIG - 1))

    def test_against_the_model(self):
        for plan in some_plans(6, 60):
            number = len(plan[1])
            for letters in histories_of(number, 4 if number == 1 else 2) + [[(2,) * number] * 9]:
                harm, hurt, firsts = model_harm(plan, letters)
                self.assertEqual(harm, harm_of(plan, letters))
                self.assertEqual(hurt, hurt_of(plan, letters))
            for region, first in enumerate(firsts):
                for user in range(plan[0][region][0]):
                    self.assertEqual(first.get(user), user_hurt(plan, letters, region, user))

    def test_first_period_of_each_user(self):
        for plan in some_plans(7, 60):
            number = len(plan[1])
            letters = ([(0,) * number, (2,) * number, (1,) * number] * 3)[:7]
            firsts = model_harm(plan, letters)[2]
            for region, first in enumerate(firsts):
                for user in range(plan[0][region][0]):
                    self.assertEqual(first.get(user), user_hurt(plan, letters, region, user))

    def test_two_hundred_periods(self):
        plan = two_regions(((500, 500), 1, ((0, 1, 1, 1),), ()))
        self.assertEqual(200 * (4 + 3 * 2), harm_of(plan, [(2, 2)] * 200))
        self.assertEqual([4, 3], hurt_of(plan, [(2, 2)] * 200))

    def test_new_lists_and_arguments_that_do_not_change(self):
        letters = [(2,), (1,), (1,), (2,)]
        self.gives_new_lists(hurt_of, P, letters)
        self.gives_new_lists(hurt_of, P, [])
        harm_of(P, letters)
        user_hurt(P, letters, 0, 0)
        self.assertEqual([(2,), (1,), (1,), (2,)], letters)


class WrongArguments(Case):
    def test_plan(self):
        for wrong in NOT_PLANS:
            with self.subTest(wrong):
                self.fails(NotAPlan, harm_of, wrong, [])
                self.fails(NotAPlan, hurt_of, wrong, [])
                self.fails(NotAPlan, user_hurt, wrong, [], 0, 0)

    def test_letters(self):
        wrongs = [value for value in NOT_INTEGERS if value != []] + [((1, 1),), "11", (1, 1)]
        wrongs += [[wrong] for wrong in NOT_LETTERS] + [[(1, 1), wrong, (1, 1)] for wrong in NOT_LETTERS]
        for wrong in wrongs:
            with self.subTest(wrong):
                self.fails(InvalidLetters, harm_of, R, wrong)
                self.fails(InvalidLetters, hurt_of, R, wrong)
                self.fails(InvalidLetters, user_hurt, R, wrong, 0, 0)

    def test_region_and_user(self):
        for wrong in (*NOT_INTEGERS, -1, 2, BIG):
            with self.subTest(wrong):
                self.fails(NoRegion, user_hurt, R, [], wrong, 0)
        for wrong in (*NOT_INTEGERS, -1, 50, 99, BIG):
            with self.subTest(wrong):
                self.fails(InvalidUser, user_hurt, R, [], 1, wrong)
        self.fails(InvalidUser, user_hurt, R, [(2, 2)], 0, 100)

    def test_first_wrong_argument_tells(self):
        self.fails(NotAPlan, harm_of, None, None)
        self.fails(NotAPlan, hurt_of, None, None)
        self.fails(NotAPlan, user_hurt, None, None, None, None)
        self.fails(InvalidLetters, user_hurt, P, None, None, None)
        self.fails(NoRegion, user_hurt, P, [], None, None)


if __name__ == "__main__":
    unittest.main()
