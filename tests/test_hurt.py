"""Point [21]: the most users hurt."""

import random
import unittest

from stagedplans.behaviours import is_possible
from stagedplans.errors import InvalidBehaviour, InvalidUser, NoRegion, NotAPlan
from stagedplans.harm import hurt_of, user_hurt
from stagedplans.hurt import greatest_hurt, hurt_history, hurt_limits, may_be_hurt
from stagedplans.states import counts, states
from tests.helper import BIG, Case, NOT_INTEGERS, NOT_PLANS, P, R, at_once, changed
from tests.slow import all_keys, possible_histories, some_behaviours
from tests.test_behaviours import WRONG_BEHAVIOURS
from tests.test_states import one_signal, two_regions
from tests.test_worst import GOOD_ONLY, STOP, small_cases

# In its first stage only region 0 is open, in its second one only region 1; bad letters of
# either signal stop the plan in the first stage.
EITHER = two_regions(
    ((1000, 0), 1, (), (((0, 2, 1, 1), ("stop",)),)),
    ((0, 1000), 1, (), ()),
)


def slow_hurt(plan, behaviour, most):
    """Return the greatest sum, the first history with it, and the limits, of all short histories."""
    best, found = 0, []
    limits = [0 for _ in plan[0]]
    for letters in possible_histories(len(plan[1]), most, behaviour):
        hurt = hurt_of(plan, letters)
        limits = [max(pair) for pair in zip(limits, hurt)]
        if sum(hurt) > best:
            best, found = sum(hurt), letters
    return best, found, limits


def slow_limits(plan, behaviour):
    """Return the greatest counts, by regions, of all periods with a bad signal on walks."""
    limits = [0 for _ in plan[0]]
    for (state, _), rows in all_keys((plan,), behaviour).items():
        for _, letter, _ in rows:
            for (region, _, _, _), grade in zip(plan[1], letter):
                if grade == 2 and state[0] == "open":
                    limits[region] = max(limits[region], counts(plan, state)[region])
    return limits


class Examples(Case):
    def test_document(self):
        self.assertEqual(900, greatest_hurt(P))
        self.assertEqual([900, 0], hurt_limits(P))
        self.assertEqual([(1,), (1,), (2,)], hurt_history(P))

    def test_second_plan(self):
        self.assertEqual(70, greatest_hurt(R))
        self.assertEqual([50, 20], hurt_limits(R))
        self.assertEqual(70, sum(hurt_of(R, hurt_history(R))))

    def test_arguments_by_name(self):
        self.assertEqual(0, greatest_hurt(behaviour=GOOD_ONLY, plan=P))
        self.assertEqual([], hurt_history(behaviour=GOOD_ONLY, plan=P))
        self.assertEqual([0, 0], hurt_limits(behaviour=GOOD_ONLY, plan=P))
        self.assertIs(False, may_be_hurt(behaviour=GOOD_ONLY, user=0, region=0, plan=P))
        self.assertIs(True, may_be_hurt(user=0, region=0, plan=P))

    def test_none_is_the_behaviour_that_is_left_out(self):
        for plan in (P, R):
            self.assertEqual(greatest_hurt(plan), greatest_hurt(plan, None))
            self.assertEqual(hurt_history(plan), hurt_history(plan, None))
            self.assertEqual(hurt_limits(plan), hurt_limits(plan, None))
            self.assertIs(may_be_hurt(plan, 0, 1), may_be_hurt(plan, 0, 1, None))


class MostHurt(Case):
    def test_two_regions_hurt_by_different_histories(self):
        self.assertEqual([8, 7], hurt_limits(EITHER))
        self.assertEqual(8, greatest_hurt(EITHER))
        self.assertEqual([(2, 0)], hurt_history(EITHER))
        more = changed(EITHER, (0, 1), (9, 2, 0, 0))
        self.assertEqual([8, 9], hurt_limits(more))
        self.assertEqual(9, greatest_hurt(more))
        self.assertEqual([(0, 0), (0, 2)], hurt_history(more))

    def test_price_of_nothing(self):
        free = changed(changed(EITHER, (1, 0, 3), 0), (1, 1, 3), 0)
        self.assertEqual([8, 7], hurt_limits(free))
        self.assertEqual([(2, 0)], hurt_history(free))
        self.assertEqual(900, greatest_hurt(changed(P, (1, 0, 3), 0)))

    def test_same_users_again_do_not_count(self):
        plan = one_signal(((250,), 1, (), ()), ((500,), 1, (), ()), ((250,), 9, (), ()))
        self.assertEqual(4, greatest_hurt(plan))
        self.assertEqual([(0,), (2,)], hurt_history(plan))
        self.assertEqual([4], hurt_limits(plan))

    def test_users_of_two_periods(self):
        # Region 0 is fully open first, region 1 last, and both in part in between.
        plan = two_regions(((1000, 0), 1, (), ()), ((500, 500), 1, (), ()), ((0, 1000), 1, (), ()))
        self.assertEqual(15, greatest_hurt(plan))
        self.assertEqual([(2, 0), (0, 0), (0, 2)], hurt_history(plan))
        # Once only may anything be bad.
        told = (2, ((0, (0, 0), 0), (0, (None, 2), 1), (0, (2, None), 1), (1, (0, 0), 1)))
        self.assertEqual(8, greatest_hurt(plan, told))
        self.assertEqual([(2, 0)], hurt_history(plan, told))
        told = (2, ((0, (0, 0), 0), (0, (2, 2), 1), (1, (0, 0), 1)))
        self.assertEqual([(2, 2)], hurt_history(plan, told))
        self.assertEqual([8, 7], hurt_limits(plan, told))

    def test_fewest_periods_then_the_least(self):
        stage = ((500,), 3, (), ())
        self.assertEqual([(2,)], hurt_history(one_signal(stage)))
        plan = two_regions(((500, 500), 3, (), ()))
        self.assertEqual([(2, 2)], hurt_history(plan))
        apart = (1, ((0, (2, 0), 0), (0, (1, 2), 0), (0, (0, 0), 0)))
        self.assertEqual([(1, 2), (2, 0)], hurt_history(plan, apart))
        self.assertEqual([(0, 2), (2, 1)], hurt_history(plan, (1, ((0, (2, 1), 0), (0, (0, 2), 0), (0, (1, 2), 0)))))

    def test_nodes_that_one_history_leads_to(self):
        # Behind a bad letter of signal 0 one walk goes on to a bad letter of signal 1, the other one does not.
        plan = two_regions(((500, 500), 5, (), ()))
        told = (3, ((0, (2, 0), 1), (0, (2, 0), 2), (2, (0, 0), 2), (2, (0, 2), 2)))
        self.assertEqual([(2, 0), (0, 2)], hurt_history(plan, told))
        self.assertEqual(7, greatest_hurt(plan, told))

    def test_none_can_be_hurt(self):
        for plan, told in (
            (one_signal(((0,), 1, (), STOP)), None), (P, GOOD_ONLY), (P, (1, ())), (P, (BIG, ())),
            (changed(P, (0, 0), (1000, 7, 3, 1000)), None),
        ):
            self.assertEqual([0, []], [greatest_hurt(plan, told), hurt_history(plan, told)])
            self.assertEqual([0] * len(plan[0]), hurt_limits(plan, told))
            self.assertIs(False, may_be_hurt(plan, 0, 0, told))

    def test_edges_that_no_walk_reaches(self):
        told = (3, ((0, (1,), 0), (1, (2,), 1), (2, (None,), 0)))
        self.assertEqual([0, 0], hurt_limits(P, told))
        self.assertEqual(0, greatest_hurt(P, told))

    def test_against_all_short_histories(self):
        short = 0
        for plan, told in small_cases(50, 60) + small_cases(51, 15, signals=2):
            most = 5 if len(plan[1]) == 1 else 3
            best, found, limits = slow_hurt(plan, told, most)
            with self.subTest(plan=plan, told=told):
                self.assertEqual(slow_limits(plan, told), hurt_limits(plan, told))
                letters = hurt_history(plan, told)
                self.assertEqual(greatest_hurt(plan, told), sum(hurt_of(plan, letters)))
                self.assertIs(True, is_possible(len(plan[1]), told, letters))
                self.assertGreaterEqual(greatest_hurt(plan, told), best)
                self.assertLessEqual(greatest_hurt(plan, told), sum(slow_limits(plan, told)))
                if best == greatest_hurt(plan, told):
                    short += 1
                    self.assertEqual(found, letters)
                else:
                    self.assertGreater(len(letters), most)
                for region, (size, factor, shift, _) in enumerate(plan[0]):
                    for user in range(size):
                        due = (factor * user + shift) % size < hurt_limits(plan, told)[region]
                        self.assertIs(due, may_be_hurt(plan, region, user, told))
        self.assertGreater(short, 150)

    def test_each_user_by_short_histories(self):
        plan = two_regions(((500, 100), 2, (), STOP), ((300, 1000), 1, (), ()))
        hurt = {}
        for letters in possible_histories(2, 3):
            for region in range(2):
                for user in range(plan[0][region][0]):
                    if user_hurt(plan, letters, region, user) is not None:
                        hurt[(region, user)] = True
        for region in range(2):
            for user in range(plan[0][region][0]):
                self.assertIs((region, user) in hurt, may_be_hurt(plan, region, user))

    def test_last_rank_below_the_limit(self):
        for region, limit in enumerate(hurt_limits(R)):
            size, factor, shift, _ = R[0][region]
            users = {(factor * user + shift) % size: user for user in range(size)}
            self.assertIs(True, may_be_hurt(R, region, users[limit - 1]))
            self.assertIs(False, may_be_hurt(R, region, users[limit]))

    def test_thirty_digits(self):
        plan = changed(P, (0, 0), (BIG, 1, 0, 10 ** 29))
        self.assertEqual([BIG - 10 ** 29, 0], hurt_limits(plan))
        self.assertEqual(BIG - 10 ** 29, greatest_hurt(plan))
        self.assertIs(True, may_be_hurt(plan, 0, BIG - 10 ** 29 - 1))
        self.assertIs(False, may_be_hurt(plan, 0, BIG - 10 ** 29))

    def test_limits(self):
        source = random.Random(5)
        stages = tuple(
            ((100 * at, 1000 - 150 * at), 2, ((0, 1, 1, 1),), (((1, 2, 2, 2), ("stop",)),)) for at in range(1, 6)
        )
        plan = two_regions(*stages)
        self.assertLessEqual(len(states(plan)), 60)
        with at_once(20):
            for told in some_behaviours(52, 20, 2, nodes=2, edges=30):
                letters = hurt_history(plan, told)
                self.assertEqual(greatest_hurt(plan, told), sum(hurt_of(plan, letters)))
                other = [source.choice(letters or [(1, 1)]) for _ in range(10)]
                if is_possible(2, told, other):
                    self.assertLessEqual(sum(hurt_of(plan, other)), greatest_hurt(plan, told))

    def test_new_lists(self):
        for function in (hurt_history, hurt_limits):
            self.gives_new_lists(function, P)
            self.gives_new_lists(function, R)
            self.gives_new_lists(function, P, GOOD_ONLY)


class WrongArguments(Case):
    def test_plan(self):
        for wrong in NOT_PLANS:
            with self.subTest(wrong):
                self.fails(NotAPlan, greatest_hurt, wrong)
                self.fails(NotAPlan, hurt_history, wrong)
                self.fails(NotAPlan, hurt_limits, wrong)
                self.fails(NotAPlan, may_be_hurt, wrong, 0, 0)

    def test_region_and_user(self):
        for wrong in (*NOT_INTEGERS, -1, 2, BIG):
            with self.subTest(wrong):
                self.fails(NoRegion, may_be_hurt, R, wrong, 0)
        for wrong in (*NOT_INTEGERS, -1, 50, 99, BIG):
            with self.subTest(wrong):
                self.fails(InvalidUser, may_be_hurt, R, 1, wrong)
        self.fails(InvalidUser, may_be_hurt, R, 0, 100)

    def test_behaviour(self):
        for wrong in WRONG_BEHAVIOURS:
            with self.subTest(wrong):
                self.fails(InvalidBehaviour, greatest_hurt, R, wrong)
                self.fails(InvalidBehaviour, hurt_history, R, wrong)
                self.fails(InvalidBehaviour, hurt_limits, R, wrong)
                self.fails(InvalidBehaviour, may_be_hurt, R, 0, 0, wrong)

    def test_first_wrong_argument_tells(self):
        for function in (greatest_hurt, hurt_history, hurt_limits):
            self.fails(NotAPlan, function, None, ())
        self.fails(NotAPlan, may_be_hurt, None, None, None, ())
        self.fails(NoRegion, may_be_hurt, P, None, None, ())
        self.fails(InvalidUser, may_be_hurt, P, 0, None, ())
        self.fails(InvalidBehaviour, may_be_hurt, behaviour=(), user=0, region=0, plan=P)


if __name__ == "__main__":
    unittest.main()
