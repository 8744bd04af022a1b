"""Points [34] and [35]: plans and behaviours as objects."""

import copy
import random
import unittest

from stagedplans.behaviours import impossible_from, is_behaviour, is_possible, nodes_after
from stagedplans.errors import InvalidBehaviour, InvalidIndex, InvalidLetters, InvalidNumber, NotABehaviour, NotAPlan
from stagedplans.errors import NotAStagePlan, OtherShape
from stagedplans.gaps import worst_gap
from stagedplans.machines import are_alike
from stagedplans.objects import Behaviour, StagePlan
from stagedplans.parts import joined, slim
from stagedplans.states import state_after, states
from stagedplans.worst import greatest_harm
from tests.helper import BIG, Case, NOT_INTEGERS, NOT_PLANS, P, R, at_once, changed, histories_of, letters_of, some_plans
from tests.slow import nodes_of, possible_histories, some_behaviours
from tests.test_behaviours import NOT_BEHAVIOURS, TOLD, WRONG_BEHAVIOURS
from tests.test_moves import Q, pairs_of_plans
from tests.test_numbers import sixty_states
from tests.test_parts import slow_alike
from tests.test_states import NOT_LETTERS, one_signal
from tests.test_worst import ENDLESS, GOOD_ONLY

NOT_HISTORIES = (
    *[value for value in NOT_INTEGERS if value != []], ((1, 1),), "11", (1, 1), {(1, 1): 1},
    *[[wrong] for wrong in NOT_LETTERS], *[[(1, 1), wrong, (1, 1)] for wrong in NOT_LETTERS],
)
# A plan that is written otherwise than P, but alike to it.
LIKE_P = changed(P, (2, 1, 3), ())


class Plans(Case):
    def test_states(self):
        plan = StagePlan(P)
        for letters in ([], [(1,)], [(1,), (1,)], [(0,), (2,)], [(2,), (2,)], [(1,), (1,), (0,)], [(0,)] * 200):
            self.assertEqual(state_after(P, letters), plan(letters))
            self.assertEqual(state_after(P, letters), plan(letters=letters))

    def test_plan(self):
        for value in (P, R, ENDLESS, *some_plans(130, 20)):
            plan = StagePlan(plan=value)
            self.assertEqual(value, plan.plan)
            self.assertEqual(value, StagePlan(plan.plan).plan)

    def test_length_and_stages(self):
        for value in (P, ENDLESS, *some_plans(131, 20)):
            plan = StagePlan(value)
            self.assertEqual(len(value[2]), len(plan))
            self.assertEqual(list(value[2]), [plan[at] for at in range(len(plan))])
            for wrong in (*NOT_INTEGERS, -1, len(value[2]), -len(value[2]), BIG, -BIG, slice(0, 1), slice(None)):
                self.fails(InvalidIndex, lambda: plan[wrong])

    def test_done(self):
        plan = StagePlan(P)
        for letters in histories_of(1, 4):
            self.assertIs(state_after(P, letters)[0] == "done", letters in plan)
        self.assertIs(False, [] in plan)
        self.assertIs(True, [(1,), (1,), (0,)] in plan)
        self.assertIs(True, [(1,)] * 200 in plan)

    def test_any_value_in_a_plan(self):
        plan = StagePlan(changed(R, (2,), (((0, 0), 1, (), ()),)))
        self.assertIs(True, [(1, 1)] in plan)
        self.assertIs(True, [(1, 1), (1, 1)] in plan)
        for value in NOT_HISTORIES:
            with self.subTest(value):
                self.assertIs(False, value in plan)
        for value in (P, plan, P[2][0], 0, Behaviour(2, None), [(1,)], [[1, 1]], float("nan")):
            self.assertIs(False, value in plan)

    def test_not_iterated(self):
        with self.assertRaises(TypeError):
            list(StagePlan(P))
        with self.assertRaises(TypeError):
            for _ in StagePlan(P):
                pass


class Alike(Case):
    def same(self, due, one, other):
        self.assertIs(due, one == other)
        self.assertIs(due, other == one)
        self.assertIs(not due, one != other)

    def test_written_otherwise(self):
        self.same(True, StagePlan(P), StagePlan(P))
        self.same(True, StagePlan(P), StagePlan(LIKE_P))
        self.same(True, StagePlan(P), StagePlan(changed(LIKE_P, (1, 0), (0, 5, 6, 7))))
        self.same(False, StagePlan(P), StagePlan(Q))
        self.same(False, StagePlan(P), StagePlan(changed(P, (3,), 2)))
        # Other regions with as many open users.
        self.same(True, StagePlan(P), StagePlan(changed(P, (0, 0), (1000, 3, 9, 100))))
        self.same(False, StagePlan(P), StagePlan(changed(P, (0, 0), (1000, 7, 3, 101))))
        plan = one_signal(((500,), 2, (), ()))
        self.same(True, StagePlan(plan), StagePlan(one_signal(((500,), 1, (), ()), ((500,), 1, (), ()))))
        self.same(False, StagePlan(plan), StagePlan(one_signal(((500,), 3, (), ()))))

    def test_other_numbers(self):
        plan = one_signal(((500,), 2, (), ()))
        more = (plan[0], plan[1] * 2, *plan[2:])
        self.same(False, StagePlan(plan), StagePlan(more))
        more = (plan[0] * 2, plan[1], (((500, 500), 2, (), ()),), 0)
        self.same(False, StagePlan(plan), StagePlan(more))
        self.same(False, StagePlan(P), StagePlan(R))
        # Plans with any number of states, too.
        stage = ((500,), 5, ((0, 1, 4, 4), (1, 1, 4, 4)), (((2, 2, 4, 4), ("back", 0)),))
        great = (plan[0], plan[1] * 3, (stage,) * 6, 3)
        with at_once(5):
            self.same(False, StagePlan(plan), StagePlan(great))

    def test_values_of_other_kinds(self):
        plan = StagePlan(P)
        for value in (*NOT_INTEGERS, P, [P], Behaviour(1, None), P[2], "P", 0):
            self.assertIs(False, plan == value)
            self.assertIs(True, plan != value)
            self.assertIs(False, value == plan)

    def test_some_plans(self):
        found = {True: 0, False: 0}
        for one, other in pairs_of_plans(132, 80) + pairs_of_plans(133, 20, signals=2):
            for twin in (other, slim(one), (*one[:3], one[3] + 1)):
                due = slow_alike(one, twin)
                found[due] += 1
                self.same(due, StagePlan(one), StagePlan(twin))
                self.assertIs(due, are_alike(one, twin))
        self.assertGreater(min(found.values()), 30)

    def test_limits(self):
        one = sixty_states()
        twin = changed(one, (2, 0, 3), one[2][0][3] * 2)
        other = changed(one, (2, 1, 0), (901,))
        late = changed(one, (3,), 2)
        self.assertEqual(60, len(states(one)))
        with at_once(10):
            for _ in range(50):
                self.same(True, StagePlan(one), StagePlan(one))
                self.same(True, StagePlan(one), StagePlan(twin))
                self.same(True, StagePlan(one), StagePlan(other))
                self.same(False, StagePlan(one), StagePlan(late))


class Differences(Case):
    def test_gaps(self):
        self.assertEqual([450, 0, 0], [StagePlan(P) - StagePlan(Q), StagePlan(Q) - StagePlan(P), StagePlan(P) - StagePlan(P)])
        nothing = changed(ENDLESS, (2, 0, 0), (0,))
        self.assertIsNone(StagePlan(ENDLESS) - StagePlan(nothing))
        self.assertEqual(0, StagePlan(nothing) - StagePlan(ENDLESS))

    def test_some_plans(self):
        for one, other in pairs_of_plans(134, 40) + pairs_of_plans(135, 10, signals=2):
            self.assertEqual(worst_gap(one, other), StagePlan(one) - StagePlan(other))

    def test_against_nothing(self):
        for plan in [plan for plan in some_plans(136, 40, regions=1) if len(states(plan)) <= 15]:
            nothing = (plan[0], plan[1], (((0,), 1, (), ()),), 0)
            self.assertEqual(greatest_harm(plan), StagePlan(plan) - StagePlan(nothing))

    def test_other_numbers(self):
        plan = one_signal(((500,), 2, (), ()))
        for other in (R, (plan[0], plan[1] * 2, *plan[2:]), (plan[0] * 2, plan[1], (((500, 500), 2, (), ()),), 0)):
            self.fails(OtherShape, lambda: StagePlan(plan) - StagePlan(other))
            self.fails(OtherShape, lambda: StagePlan(other) - StagePlan(plan))
        # As with gaps, regions and signals may differ, as long as there are as many.
        self.assertEqual(0, StagePlan(plan) - StagePlan(changed(plan, (0, 0), (8, 3, 0, 0))))
        self.assertEqual(4, StagePlan(plan) - StagePlan(changed(plan, (0, 0), (4, 3, 0, 0))))

    def test_right_operand(self):
        for wrong in (*NOT_INTEGERS, P, Behaviour(1, None), 0, "plan"):
            self.fails(NotAStagePlan, lambda: StagePlan(P) - wrong)
            self.fails(NotAStagePlan, lambda: StagePlan(P) + wrong)


class Sums(Case):
    def test_joined(self):
        for one, other in ((P, P), (P, Q), (Q, P), (R, R)):
            both = StagePlan(one) + StagePlan(other)
            self.assertIsInstance(both, StagePlan)
            self.assertEqual(joined(one, other), both.plan)
            self.assertEqual(4, len(both))
        self.assertEqual((P, Q), (StagePlan(P).plan, StagePlan(Q).plan))
        one, other = StagePlan(P), StagePlan(Q)
        three = one + other + one
        self.assertEqual([P, Q, 6, 3], [one.plan, other.plan, len(three), three.plan[3]])

    def test_other_shape(self):
        for other in (R, ENDLESS, changed(P, (0, 0), (1000, 7, 4, 100)), changed(P, (1, 0, 3), 2)):
            self.fails(OtherShape, lambda: StagePlan(P) + StagePlan(other))
            self.fails(OtherShape, lambda: StagePlan(other) + StagePlan(P))


class WrongPlans(Case):
    def test_plan(self):
        for wrong in (*NOT_PLANS, StagePlan(P)):
            with self.subTest(wrong):
                self.fails(NotAPlan, StagePlan, wrong)

    def test_letters(self):
        plan = StagePlan(R)
        for wrong in NOT_HISTORIES:
            with self.subTest(wrong):
                self.fails(InvalidLetters, plan, wrong)
        self.assertEqual(R, plan.plan)

    def test_arguments_do_not_change(self):
        letters = [(1,), (1,), (0,)]
        plan = StagePlan(P)
        plan(letters)
        self.assertIs(True, letters in plan)
        self.assertEqual([(1,), (1,), (0,)], letters)


def slow_same(number, one, other):
    """Tell whether the same histories are possible, by all pairs of sets of nodes."""
    met = set()
    waiting = [(frozenset({0}), frozenset({0}))]

    def behind(told, nodes, letter):
        if told is None:
            return nodes
        return frozenset(end for start, partial, end in told[1] if start in nodes and nodes_of((2, ((0, partial, 1),)), [letter]))

    while waiting:
        pair = waiting.pop()
        if pair in met:
            continue
        met.add(pair)
        if bool(pair[0]) != bool(pair[1]):
            return False
        waiting += [(behind(one, pair[0], letter), behind(other, pair[1], letter)) for letter in letters_of(number)]
    return True


class Behaviours(Case):
    def test_told(self):
        for number, told in ((1, None), (1, GOOD_ONLY), (2, TOLD), (3, (1, ())), (BIG, None), (BIG, (1, ())), (2, (BIG, ()))):
            one = Behaviour(number, told)
            self.assertEqual((number, told), (one.number, one.told))
            one = Behaviour(behaviour=told, number=number)
            self.assertEqual((number, told), (one.number, one.told))

    def test_possible(self):
        for number in (1, 2):
            for told in some_behaviours(140, 30, number, nodes=4, edges=10):
                one = Behaviour(number, told)
                for letters in histories_of(number, 3 if number == 1 else 2):
                    self.assertIs(is_possible(number, told, letters), letters in one)
                self.assertIs(True, [] in one)

    def test_any_value(self):
        for told in (None, (1, ((0, (None, None), 0),))):
            one = Behaviour(2, told)
            self.assertIs(True, [(1, 1), (0, 2)] in one)
            for value in NOT_HISTORIES:
                with self.subTest(value):
                    self.assertIs(False, value in one)
            for value in (one, TOLD, 0, [(1,)], [(1, 1, 1)], [[1, 1]]):
                self.assertIs(False, value in one)

    def test_both(self):
        for number in (1, 2):
            behaviours = some_behaviours(141, 14, number, nodes=3, edges=7)
            most = 4 if number == 1 else 2
            for one in behaviours:
                for other in behaviours[::2]:
                    both = Behaviour(number, one) & Behaviour(number, other)
                    self.assertIsInstance(both, Behaviour)
                    self.assertEqual(number, both.number)
                    self.assertIs(True, is_behaviour(number, both.told))
                    for periods in range(most + 1):
                        for letters in histories_of(number, periods):
                            due = bool(nodes_of(one, letters)) and bool(nodes_of(other, letters))
                            self.assertIs(due, letters in both)

    def test_both_told_passed_back(self):
        one, other = (3, ((0, (1, None), 1), (1, (None, 2), 2), (2, (0, None), 0), (0, (None, None), 0))), TOLD
        both = Behaviour(2, one) & Behaviour(2, other)
        again = Behaviour(2, both.told)
        self.assertIs(True, again == both)
        self.assertEqual(both.told, again.told)
        for letters in possible_histories(2, 2):
            self.assertIs(letters in both, is_possible(2, both.told, letters))
            self.assertIs(letters in both, len(nodes_after(2, both.told, letters)) > 0)
            self.assertIs(letters in both, impossible_from(2, both.told, letters) is None)

    def test_both_of_none(self):
        free = Behaviour(2, None) & Behaviour(2, None)
        self.assertIsNotNone(free.told)
        self.assertIs(True, is_behaviour(2, free.told))
        self.assertIs(True, free == Behaviour(2, None))
        for one in (Behaviour(2, TOLD) & Behaviour(2, None), Behaviour(2, None) & Behaviour(2, TOLD)):
            self.assertIs(True, is_behaviour(2, one.told))
            self.assertIs(True, one == Behaviour(2, TOLD))

    def test_possible_for_one_alone(self):
        one, other = Behaviour(1, (1, ((0, (1,), 0), (0, (0,), 0)))), Behaviour(1, (2, ((0, (1,), 1), (1, (2,), 0), (1, (0,), 1))))
        both = one & other
        for letters, due in (
            ([], (True, True, True)), ([(1,)], (True, True, True)), ([(0,)], (True, False, False)), ([(1,), (2,)], (False, True, False)),
            ([(1,), (0,)], (True, True, True)), ([(1,), (1,)], (True, False, False)), ([(2,)], (False, False, False)),
        ):
            self.assertEqual(due, (letters in one, letters in other, letters in both))
        # The operands are as they were.
        self.assertEqual((1, ((0, (1,), 0), (0, (0,), 0))), one.told)

    def test_no_history_for_both(self):
        both = Behaviour(1, (1, ((0, (1,), 0),))) & Behaviour(1, (1, ((0, (2,), 0),)))
        self.assertIs(True, [] in both)
        self.assertIs(False, [(1,)] in both)
        self.assertIs(True, both == Behaviour(1, (5, ())))

    def test_both_at_the_limits(self):
        source = random.Random(142)
        told = [
            (6, tuple((at % 6, tuple(source.choice((None, None, 0, 1, 2)) for _ in range(3)), source.randrange(6)) for at in range(30)))
            for _ in range(2)
        ]
        with at_once(10):
            for _ in range(20):
                both = Behaviour(3, told[0]) & Behaviour(3, told[1])
        self.assertIs(True, is_behaviour(3, both.told))
        for letters in ([], *[[letter] for letter in letters_of(3)], *[[one, other] for one in letters_of(3) for other in letters_of(3)]):
            due = bool(nodes_of(told[0], letters)) and bool(nodes_of(told[1], letters))
            self.assertIs(due, letters in both)


class SameBehaviours(Case):
    def same(self, due, one, other):
        self.assertIs(due, one == other)
        self.assertIs(due, other == one)
        self.assertIs(not due, one != other)

    def test_written_otherwise(self):
        one = Behaviour(1, GOOD_ONLY)
        self.same(True, one, Behaviour(1, GOOD_ONLY))
        self.same(True, one, Behaviour(1, (3, ((0, (1,), 1), (1, (1,), 2), (2, (1,), 1), (1, (1,), 1)))))
        self.same(False, one, Behaviour(1, (3, ((0, (1,), 1), (1, (1,), 2), (2, (1,), 1), (1, (0,), 1)))))
        self.same(False, one, Behaviour(1, (3, ((0, (1,), 1), (1, (1,), 2)))))
        self.same(True, Behaviour(1, (BIG, ())), Behaviour(1, (1, ())))
        self.same(True, Behaviour(2, (2, ((1, (None, None), 0),))), Behaviour(2, (1, ())))

    def test_none(self):
        self.same(True, Behaviour(2, None), Behaviour(2, None))
        self.same(True, Behaviour(2, None), Behaviour(2, (1, ((0, (None, None), 0),))))
        edges = tuple((0, (grade, None), 0) for grade in range(3))
        self.same(True, Behaviour(2, None), Behaviour(2, (1, edges)))
        self.same(False, Behaviour(2, None), Behaviour(2, (1, edges[:2])))
        self.same(False, Behaviour(2, None), Behaviour(2, (1, ())))

    def test_several_walks(self):
        # A letter leads to two nodes, from which different letters are possible: together, all of them.
        told = (3, ((0, (1,), 1), (0, (1,), 2), (1, (0,), 0), (2, (1,), 0), (2, (2,), 0)))
        self.same(True, Behaviour(1, told), Behaviour(1, (2, ((0, (1,), 1), (1, (None,), 0)))))
        self.same(False, Behaviour(1, told[:1] + (told[1][:-1],)), Behaviour(1, (2, ((0, (1,), 1), (1, (None,), 0)))))

    def test_other_numbers_and_kinds(self):
        self.same(False, Behaviour(1, None), Behaviour(2, None))
        self.same(False, Behaviour(1, (1, ())), Behaviour(2, (1, ())))
        for value in (*NOT_INTEGERS, GOOD_ONLY, StagePlan(P), 0):
            self.assertIs(False, Behaviour(1, GOOD_ONLY) == value)
            self.assertIs(True, Behaviour(1, GOOD_ONLY) != value)
            self.assertIs(False, Behaviour(1, None) == value)

    def test_some_behaviours(self):
        found = {True: 0, False: 0}
        for number, many in ((1, 40), (2, 14)):
            behaviours = some_behaviours(143, many, number, nodes=3, edges=6)
            for one in behaviours:
                for other in behaviours[::3]:
                    due = slow_same(number, one, other)
                    found[due] += 1
                    self.same(due, Behaviour(number, one), Behaviour(number, other))
        self.assertGreater(min(found.values()), 40)

    def test_joined_ones(self):
        found = {True: 0, False: 0}
        for number in (1, 2):
            behaviours = some_behaviours(144, 8, number, nodes=3, edges=8)
            for one in behaviours:
                for other in behaviours[::2]:
                    both = Behaviour(number, one) & Behaviour(number, other)
                    self.same(True, both, Behaviour(number, both.told))
                    for third in behaviours[::3]:
                        due = slow_same(number, both.told, third)
                        found[due] += 1
                        self.same(due, both, Behaviour(number, third))
                    self.assertIs(slow_same(number, both.told, one), both == Behaviour(number, one))
        self.assertGreater(min(found.values()), 20)

    def test_limits(self):
        # Which of the last letters was bad tells what is possible: many sets of nodes.
        edges = [(0, (None, None), 0), (0, (2, None), 1), *[(at, (None, None), at + 1) for at in range(1, 5)]]
        told = (6, (*edges, (5, (0, None), 0)))
        source = random.Random(145)
        small = [
            (3, tuple((source.randrange(3), (source.choice((None, 0, 1, 2)), None), source.randrange(3)) for _ in range(30)))
            for _ in range(2)
        ]
        with at_once(10):
            for _ in range(10):
                both = Behaviour(2, small[0]) & Behaviour(2, small[1])
                self.assertIs(True, both == Behaviour(2, both.told))
                self.assertIs(slow_same(2, both.told, told), both == Behaviour(2, told))
                self.same(True, Behaviour(2, told), Behaviour(2, (6, told[1][::-1])))


class WrongBehaviours(Case):
    def test_number(self):
        for wrong in (*NOT_INTEGERS, 0, -1, -BIG):
            with self.subTest(wrong):
                self.fails(InvalidNumber, Behaviour, wrong, None)
                self.fails(InvalidNumber, Behaviour, wrong, ())

    def test_behaviour(self):
        for wrong in (*WRONG_BEHAVIOURS, Behaviour(2, None)):
            with self.subTest(wrong):
                self.fails(InvalidBehaviour, Behaviour, 2, wrong)
        self.fails(InvalidBehaviour, Behaviour, 2, GOOD_ONLY)
        self.assertIn(None, NOT_BEHAVIOURS)

    def test_right_operand(self):
        one = Behaviour(2, TOLD)
        for wrong in (*NOT_INTEGERS, TOLD, StagePlan(R), 2):
            self.fails(NotABehaviour, lambda: one & wrong)
        for other in (Behaviour(1, None), Behaviour(3, None), Behaviour(1, GOOD_ONLY)):
            self.fails(OtherShape, lambda: one & other)
        self.assertEqual((2, TOLD), (one.number, one.told))

    def test_arguments_do_not_change(self):
        letters = [(1, 0), (2, 2)]
        self.assertIs(True, letters in Behaviour(2, TOLD))
        self.assertEqual([(1, 0), (2, 2)], letters)
        self.assertEqual(copy.deepcopy(TOLD), Behaviour(2, TOLD).told)


if __name__ == "__main__":
    unittest.main()
