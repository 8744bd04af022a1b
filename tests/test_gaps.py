"""Point [25]: how much worse a plan can be."""

import copy
import unittest

from stagedplans.behaviours import is_possible
from stagedplans.errors import InvalidBehaviour, InvalidTable, NotAPlan, OtherShape
from stagedplans.gaps import gap_history, gap_ring, gap_table, gap_table_fault, never_worse, worst_gap
from stagedplans.states import begin, states
from stagedplans.worst import greatest_harm
from tests.helper import BIG, Case, NOT_INTEGERS, NOT_PLANS, P, R, at_once, changed
from tests.slow import best_worths, changed_tables, first_best, gap_of, grows_always, judged, possible_histories
from tests.slow import some_behaviours, table_of
from tests.test_behaviours import WRONG_BEHAVIOURS
from tests.test_machines import OTHER_SHAPES, Q, pair_cases
from tests.test_states import one_signal, two_regions
from tests.test_worst import ENDLESS, GOOD_ONLY, STOP

ALL = (worst_gap, gap_history, gap_ring, gap_table, never_worse)
# As ENDLESS, but open to two users less.
LESS = changed(ENDLESS, (2, 0, 0), (300,))
SHORT = changed(ENDLESS, (2, 0, 3), STOP)


def small_pairs(seed, many, signals=1):
    """Return pairs of plans of one shape with a few behaviours each."""
    rows = []
    for at, (one, other) in enumerate(pair_cases(seed, many, signals)):
        if len(states(one)) > 12 or len(states(other)) > 12:
            continue
        for told in some_behaviours(seed + at, 1, len(one[1]), nodes=2, edges=6):
            rows += [(one, other, told), (other, one, told)]
    return rows


def endless_pairs(seed, many):
    """Return two plans that go on until good letters, each one beside the other, with behaviours of many rings."""
    one = two_regions(((500, 1000), 1, ((0, 1, 1, 1),), ()), ((500, 500), 1, ((1, 1, 1, 1),), ()))
    other = two_regions(((1000, 500), 1, ((1, 1, 1, 1),), (((0, 2, 3, 3), ("drop", 0)),)))
    behaviours = some_behaviours(seed, many, 2, nodes=2, edges=4)
    return [(one, other, told) for told in behaviours] + [(other, one, told) for told in behaviours]


class Examples(Case):
    def test_document(self):
        self.assertEqual(450, worst_gap(P, Q))
        self.assertEqual(0, worst_gap(Q, P))
        self.assertIs(True, never_worse(Q, P))
        self.assertIs(False, never_worse(P, Q))
        self.assertEqual([(1,), (1,), (2,)], gap_history(P, Q))
        self.assertEqual([], gap_history(Q, P))

    def test_a_plan_and_itself(self):
        for plan in (P, Q, R, ENDLESS):
            self.assertEqual(0, worst_gap(plan, plan))
            self.assertEqual([], gap_history(plan, plan))
            self.assertIsNone(gap_ring(plan, plan))
            self.assertIs(True, never_worse(plan, plan))
            table = gap_table(plan, plan)
            self.assertEqual([(state, state, 0, 0) for state in states(plan)], table)
            self.assertIsNone(gap_table_fault(plan, plan, table))

    def test_arguments_by_name(self):
        self.assertEqual(450, worst_gap(behaviour=None, other=Q, one=P))
        self.assertEqual([(1,), (1,), (2,)], gap_history(other=Q, one=P))
        self.assertEqual(([], [(2,)]), gap_ring(behaviour=(1, ((0, (2,), 0),)), other=LESS, one=ENDLESS))
        table = gap_table(behaviour=GOOD_ONLY, other=Q, one=P)
        self.assertIsNone(gap_table_fault(behaviour=GOOD_ONLY, table=table, other=Q, one=P))
        self.assertIs(True, never_worse(behaviour=GOOD_ONLY, other=Q, one=P))

    def test_none_is_the_behaviour_that_is_left_out(self):
        for function in ALL:
            self.assertEqual(function(P, Q), function(P, Q, None))
        self.assertIsNone(gap_table_fault(P, Q, gap_table(P, Q), None))


class Gaps(Case):
    def test_no_upper_bound(self):
        self.assertEqual([None, None, None], [worst_gap(ENDLESS, LESS), gap_history(ENDLESS, LESS), gap_table(ENDLESS, LESS)])
        self.assertIs(False, never_worse(ENDLESS, LESS))
        self.assertIs(True, grows_always((ENDLESS, LESS), *gap_ring(ENDLESS, LESS), None))
        self.assertEqual([0, []], [worst_gap(LESS, ENDLESS), gap_history(LESS, ENDLESS)])
        self.assertIs(True, never_worse(LESS, ENDLESS))
        # The one with an upper bound of its own has one beside any other.
        self.assertEqual(5, greatest_harm(SHORT))
        self.assertEqual([2, [(2,)]], [worst_gap(SHORT, LESS), gap_history(SHORT, LESS)])
        self.assertIsNone(worst_gap(ENDLESS, SHORT))
        self.assertIsNone(worst_gap(LESS, SHORT))

    def test_behaviour_bounds_the_gap(self):
        told = (3, ((0, (2,), 1), (1, (2,), 2), (0, (0,), 0), (1, (0,), 1), (2, (0,), 2)))
        self.assertEqual(4, worst_gap(ENDLESS, LESS, told))
        self.assertEqual([(2,), (2,)], gap_history(ENDLESS, LESS, told))
        self.assertIsNone(gap_ring(ENDLESS, LESS, told))
        first = begin(ENDLESS)
        self.assertEqual([(first, first, 0, 4), (first, first, 1, 2), (first, first, 2, 0)], gap_table(ENDLESS, LESS, told))
        self.assertIs(True, never_worse(ENDLESS, LESS, GOOD_ONLY))
        for none in ((1, ()), (BIG, ())):
            self.assertEqual([0, []], [worst_gap(ENDLESS, LESS, none), gap_history(ENDLESS, LESS, none)])
            self.assertEqual([(first, first, 0, 0)], gap_table(ENDLESS, LESS, none))

    def test_less_now_and_more_later(self):
        # One plan is worse in its second stage, the other one in its first.
        one = one_signal(((100,), 1, (), ()), ((1000,), 1, (), ()), regions=((10, 1, 0, 0),))
        other = one_signal(((500,), 1, (), ()), ((500,), 1, (), ()), regions=((10, 1, 0, 0),))
        self.assertEqual([5, [(0,), (2,)]], [worst_gap(one, other), gap_history(one, other)])
        self.assertEqual([4, [(2,)]], [worst_gap(other, one), gap_history(other, one)])
        told = (1, ((0, (2,), 0),))
        self.assertEqual([1, [(2,), (2,)]], [worst_gap(one, other, told), gap_history(one, other, told)])
        table = gap_table(one, other, told)
        stage = ("open", 1, 0, (), (), 0)
        self.assertEqual([(("done", ()), ("done", ()), 0, 0), (begin(one), begin(one), 0, 1), (stage, stage, 0, 5)], table)
        self.assertEqual([True, False], [never_worse(one, other, (1, ())), never_worse(one, other, told)])

    def test_ring_that_loses_and_gains(self):
        # Each bad letter of signal 1 loses three, each one of signal 0 gains four.
        one = two_regions(((1000, 0), 1, ((0, 1, 1, 1),), ()))
        other = two_regions(((500, 1000), 1, ((0, 1, 1, 1),), ()))
        one, other = changed(one, (1, 1, 3), 1), changed(other, (1, 1, 3), 1)
        self.assertIsNone(worst_gap(one, other))
        both = (2, ((0, (2, 0), 1), (1, (0, 2), 0)))
        self.assertEqual(4, worst_gap(one, other, both))
        self.assertEqual([(2, 0)], gap_history(one, other, both))
        self.assertIsNone(worst_gap(one, other, (2, ((0, (2, 0), 1), (1, (2, 0), 0)))))
        gains = (3, ((0, (2, 0), 1), (1, (2, 0), 2), (2, (0, 2), 0)))
        self.assertIsNone(worst_gap(one, other, gains))
        self.assertIs(True, grows_always((one, other), *gap_ring(one, other, gains), gains))
        dearer = (changed(one, (1, 1, 3), 2), changed(other, (1, 1, 3), 2))
        self.assertEqual(8, worst_gap(*dearer, gains))
        self.assertEqual([(2, 0), (2, 0)], gap_history(*dearer, gains))

    def test_fewest_periods_then_the_least(self):
        one = two_regions(((500, 500), 2, (), ()))
        other = two_regions(((250, 500), 2, (), ()))
        self.assertEqual([4, [(2, 0), (2, 0)]], [worst_gap(one, other), gap_history(one, other)])
        told = (3, ((0, (0, 0), 1), (1, (2, 0), 2), (0, (2, 1), 2), (0, (2, 2), 2)))
        self.assertEqual([(2, 1)], gap_history(one, other, told))

    def test_walks_that_share_a_history(self):
        told = (4, ((0, (2,), 1), (0, (2,), 2), (1, (1,), 3), (2, (0,), 3), (3, (2,), 3)))
        one = one_signal(((500,), 3, (), ()))
        other = one_signal(((250,), 3, (), ()))
        self.assertEqual([4, [(2,), (0,), (2,)]], [worst_gap(one, other, told), gap_history(one, other, told)])

    def test_ring_of_all_triples_that_adds_as_little_as_can_be(self):
        other = changed(ENDLESS, (2, 0, 0), (400,))
        for many in (1, 2, 3):
            told = (many, ((0, (2,), 1 % many),) + tuple((at, (0,), (at + 1) % many) for at in range(1, many)))
            self.assertEqual([None, None], [worst_gap(ENDLESS, other, told), gap_history(ENDLESS, other, told)])
            self.assertEqual([0, []], [worst_gap(other, ENDLESS, told), gap_history(other, ENDLESS, told)])

    def test_against_slow_searches(self):
        kinds = {}
        for one, other, told in small_pairs(80, 20) + small_pairs(81, 6, signals=2) + endless_pairs(83, 25):
            with self.subTest(one=one, other=other, told=told):
                worth = best_worths((one, other), told)
                start = (begin(one), begin(other), 0)
                due = None if worth is None else worth[start]
                kinds[None if due is None else due > 0] = kinds.get(None if due is None else due > 0, 0) + 1
                self.assertEqual(due, worst_gap(one, other, told))
                self.assertIs(due == 0, never_worse(one, other, told))
                self.assertEqual(table_of(worth), gap_table(one, other, told))
                letters = gap_history(one, other, told)
                ring = gap_ring(one, other, told)
                if due is None:
                    self.assertIsNone(letters)
                    self.assertIs(True, grows_always((one, other), *ring, told))
                    continue
                self.assertIsNone(ring)
                self.assertEqual(due, gap_of(one, other, letters))
                self.assertIs(True, is_possible(len(one[1]), told, letters))
                most = 5 if len(one[1]) == 1 else 2
                best, found = first_best((one, other), told, most)
                if best == due:
                    self.assertEqual(found, letters)
                else:
                    self.assertGreater(len(letters), most)
        self.assertGreater(min(kinds[True], kinds[False], kinds[None]), 15)

    def test_all_short_histories(self):
        for letters in possible_histories(1, 6):
            self.assertLessEqual(gap_of(P, Q, letters), 450)
            self.assertLessEqual(gap_of(Q, P, letters), 0)

    def test_limits(self):
        # Two plans with 15 states or nearly so, each beside each other one.
        one = two_regions(((500, 700), 2, ((0, 1, 1, 1),), (((0, 2, 1, 1), ("back", 0)), ((1, 2, 2, 2), ("drop", 1)))), tries=1)
        other = two_regions(((300, 900), 3, ((1, 1, 1, 1),), (((1, 2, 1, 1), ("back", 0)),)), tries=3)
        one = changed(one, (1, 0, 3), BIG)
        other = changed(other, (1, 0, 3), BIG)
        told = (2, tuple((at, (None, grade), 1 - at) for at in range(2) for grade in range(3)) * 5)
        with at_once(20):
            for _ in range(5):
                for first, second in ((one, other), (other, one)):
                    for behaviour in (None, told, (2, told[1][:3])):
                        gap = worst_gap(first, second, behaviour)
                        table = gap_table(first, second, behaviour)
                        if gap is None:
                            self.assertIs(True, grows_always((first, second), *gap_ring(first, second, behaviour), behaviour))
                        else:
                            self.assertIsNone(gap_table_fault(first, second, table, behaviour))
                            self.assertEqual(gap, gap_of(first, second, gap_history(first, second, behaviour)))

    def test_new_lists(self):
        for function in (gap_history, gap_table):
            self.gives_new_lists(function, P, Q)
            self.gives_new_lists(function, P, Q, GOOD_ONLY)
        one, other = gap_ring(ENDLESS, LESS), gap_ring(ENDLESS, LESS)
        self.assertEqual(one, other)
        self.assertEqual(4, len({id(part) for part in (*one, *other)}))


class TableFaults(Case):
    def test_words(self):
        table = gap_table(P, Q)
        place = [row[:3] for row in table].index((begin(P), begin(Q), 0))
        self.assertIsNone(gap_table_fault(P, Q, table))
        for number, due in ((0, ("low", place)), (449, ("low", place)), (450, None), (10 ** 99, None)):
            other = [*table[:place], (begin(P), begin(Q), 0, number), *table[place + 1:]]
            self.assertEqual(due, gap_table_fault(P, Q, other))
        self.assertEqual(("begin", None), gap_table_fault(P, Q, []))
        self.assertEqual(("begin", None), gap_table_fault(P, Q, table[:place] + table[place + 1:]))
        self.assertEqual(("missing", 0), gap_table_fault(P, Q, [table[place]]))

    def test_triple_left_out(self):
        table = gap_table(P, Q)
        for at, row in enumerate(table):
            fewer = table[:at] + table[at + 1:]
            self.assertEqual(judged((P, Q), fewer, None), gap_table_fault(P, Q, fewer))
            self.assertIsNotNone(gap_table_fault(P, Q, fewer), row)

    def test_period_that_loses(self):
        # A number may be less than the one behind it, if the period loses as much.
        one = one_signal(((100,), 1, (), ()), ((1000,), 1, (), ()), regions=((10, 1, 0, 0),))
        other = one_signal(((500,), 1, (), ()), ((500,), 1, (), ()), regions=((10, 1, 0, 0),))
        told = (1, ((0, (2,), 0),))
        done, first, stage = ("done", ()), begin(one), ("open", 1, 0, (), (), 0)
        for number, due in ((1, None), (0, ("low", 1))):
            table = [(done, done, 0, 0), (first, first, 0, number), (stage, stage, 0, 5)]
            self.assertEqual(due, gap_table_fault(one, other, table, told))

    def test_states_that_no_history_leads_to(self):
        row = (("open", 1, 0, ((0,),), (), 1), ("done", ()), 0, 900)
        done = (("done", ()), ("done", ()), 0, 0)
        table = sorted([*gap_table(P, Q), row, (("stopped",), ("done", ()), 0, 0)])
        self.assertIn(done, table)
        self.assertIsNone(gap_table_fault(P, Q, table))
        at = table.index(row)
        self.assertEqual(("low", at), gap_table_fault(P, Q, [*table[:at], (*row[:3], 899), *table[at + 1:]]))
        lone = sorted([*gap_table(P, Q), row, (("open", 1, 0, ((2,),), (), 1), ("done", ()), 0, 900)])
        self.assertEqual(("missing", lone.index((("open", 1, 0, ((2,),), (), 1), ("done", ()), 0, 900))), gap_table_fault(P, Q, lone))

    def test_against_the_slow_judge(self):
        tested = 0
        for one, other, told in small_pairs(82, 10):
            table = gap_table(one, other, told)
            if table is None or len(table) > 9:
                continue
            tested += 1
            self.assertIsNone(gap_table_fault(one, other, table, told))
            for wrong in changed_tables(table):
                self.assertEqual(judged((one, other), wrong, told), gap_table_fault(one, other, wrong, told))
        self.assertGreater(tested, 40)

    def test_arguments_do_not_change(self):
        table = gap_table(P, Q)
        kept = copy.deepcopy(table)
        gap_table_fault(P, Q, table)
        self.assertEqual(kept, table)


class WrongArguments(Case):
    def test_plan(self):
        for wrong in NOT_PLANS:
            with self.subTest(wrong):
                for function in ALL:
                    self.fails(NotAPlan, function, wrong, P)
                    self.fails(NotAPlan, function, P, wrong)
                self.fails(NotAPlan, gap_table_fault, wrong, P, [])
                self.fails(NotAPlan, gap_table_fault, P, wrong, [])

    def test_other_shape(self):
        plan = two_regions(((500, 500), 1, (), ()))
        for other in OTHER_SHAPES:
            for one, two in ((plan, other), (other, plan)):
                with self.subTest(one=one, two=two):
                    for function in ALL:
                        self.fails(OtherShape, function, one, two)
                    self.fails(OtherShape, gap_table_fault, one, two, [])
        # Other regions and signals of the same numbers are no other shape.
        self.assertIsNotNone(worst_gap(plan, two_regions(((0, 0), 1, (), ()))))

    def test_behaviour(self):
        for wrong in WRONG_BEHAVIOURS:
            with self.subTest(wrong):
                for function in ALL:
                    self.fails(InvalidBehaviour, function, R, R, wrong)
                self.fails(InvalidBehaviour, gap_table_fault, R, R, [], wrong)

    def test_table(self):
        state = begin(R)
        rows = [
            *NOT_INTEGERS, (state, state, 0), (state, 0, 0), (state, state, 0, 0, 0), [state, state, 0, 0], (None, state, 0, 0),
            (state, None, 0, 0), (begin(P), state, 0, 0), (state, begin(P), 0, 0), (state, state, 1, 0), (state, state, -1, 0),
            (state, state, False, 0), (state, state, 0, -1), (state, state, 0, True), (state, state, 0, None),
            (list(state), state, 0, 0), (state, ("done", (0, 1)), 0, 0),
        ]
        wrongs = [value for value in NOT_INTEGERS if value != []] + [((state, state, 0, 0),), [(state, state, 0, 0)] * 2]
        wrongs += [[(state, state, 0, 0), (state, state, 0, 1)], [(state, state, 0, 0), (state, ("done", ()), 0, 0)]]
        wrongs += [[(("stopped",), ("stopped",), 0, 0), (state, state, 0, 0)]]
        for wrong in wrongs + [[row] for row in rows] + [[(("done", ()), state, 0, 0), row] for row in rows]:
            with self.subTest(wrong):
                self.fails(InvalidTable, gap_table_fault, R, R, wrong)

    def test_states_of_each_plan(self):
        one = changed(P, (3,), 2)
        left = ("open", 0, 0, (), (), 2)
        self.assertEqual(("begin", None), gap_table_fault(one, P, [(left, ("stopped",), 0, 0)]))
        self.fails(InvalidTable, gap_table_fault, P, one, [(left, ("stopped",), 0, 0)])
        self.fails(InvalidTable, gap_table_fault, one, P, [(("stopped",), left, 0, 0)])

    def test_first_wrong_argument_tells(self):
        for function in ALL:
            self.fails(NotAPlan, function, None, None, ())
            self.fails(NotAPlan, function, P, None, ())
            self.fails(OtherShape, function, P, R, ())
        self.fails(NotAPlan, gap_table_fault, P, None, None, ())
        self.fails(OtherShape, gap_table_fault, P, R, None, ())
        self.fails(InvalidBehaviour, gap_table_fault, P, Q, None, ())
        self.fails(InvalidTable, gap_table_fault, P, Q, None, GOOD_ONLY)
        self.fails(InvalidBehaviour, gap_table_fault, behaviour=(), table=None, other=Q, one=P)


if __name__ == "__main__":
    unittest.main()
