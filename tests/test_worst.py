"""Points [18] and [19]: the greatest harm, its history, its ring, its table, and tables that are judged."""

import copy
import random
import time
import unittest

from stagedplans.behaviours import is_possible
from stagedplans.errors import InvalidBehaviour, InvalidLetters, InvalidTable, NotAPlan
from stagedplans.harm import harm_of
from stagedplans.states import begin, states
from stagedplans.worst import greatest_harm, harm_history, harm_ring, harm_table, harm_table_fault, is_harm_ring
from tests.helper import BIG, Case, NOT_INTEGERS, NOT_PLANS, P, R, at_once, changed, letters_of, some_plans
from tests.slow import best_worths, changed_tables, first_best, grows_always, judged, some_behaviours, table_of
from tests.test_behaviours import WRONG_BEHAVIOURS
from tests.test_states import NOT_LETTERS, one_signal, two_regions

GOOD_ONLY = (1, ((0, (1,), 0),))
# One region of 10 users; its stage goes on until a good letter.
ENDLESS = one_signal(((500,), 1, ((0, 1, 1, 1),), ()), regions=((10, 1, 0, 0),))
STOP = (((0, 2, 1, 1), ("stop",)),)


def small_cases(seed, many, signals=1):
    """Return plans with a few behaviours each."""
    plans = [plan for plan in some_plans(seed, many, regions=2, signals=signals) if len(states(plan)) <= 25]
    return [
        (plan, told)
        for at, plan in enumerate(plans)
        for told in some_behaviours(seed + at, 3, len(plan[1]))
    ]


def big_plan():
    """A plan with two signals and 93 states, and harm of 60 digits."""
    guards = (((0, 2, 3, 3), ("stop",)), ((1, 2, 3, 3), ("back", 0)))
    stage = ((700, 300), 2, ((0, 1, 3, 3), (1, 1, 2, 3)), guards)
    regions = ((1000, 7, 3, 100), (BIG, BIG - 1, 17, 0))
    return (regions, ((0, 20, 50, BIG), (1, 20, 50, BIG)), (stage,), 0)


def big_behaviour(nodes, edges=30):
    source = random.Random(nodes)
    return (nodes, tuple(
        (at % nodes, (source.choice((None, None, 0, 2)), source.choice((None, None, 1, 2))), source.randrange(nodes))
        for at in range(edges)
    ))


# Two regions with a signal each, two stages, and 288 states.
MANY_STATES = (
    ((1000, 7, 3, 100), (10, 3, 0, 0)),
    ((0, 20, 50, 1), (1, 30, 40, 2)),
    (
        ((100, 0), 3, ((0, 1, 2, 3),), (((0, 2, 1, 1), ("back", 0)), ((1, 2, 2, 2), ("drop", 1)))),
        ((1000, 500), 2, ((1, 1, 1, 1),), (((0, 2, 2, 3), ("stop",)),)),
    ),
    1,
)
# The same plan with the second region open in the first stage, too.
RINGED = changed(MANY_STATES, (2, 0, 0), (100, 300))
# Letters of which most do not end a stage.
SOFT = ((0, 0), (0, 2), (0, 2), (0, 1), (0, 0), (1, 0), (2, 0), (0, 2), (2, 2))


class Examples(Case):
    def test_document(self):
        self.assertEqual(990, greatest_harm(P))
        self.assertEqual([(2,), (1,), (1,), (2,)], harm_history(P))
        self.assertEqual(0, greatest_harm(P, GOOD_ONLY))

    def test_arguments_by_name(self):
        self.assertEqual(0, greatest_harm(behaviour=GOOD_ONLY, plan=P))
        self.assertEqual([], harm_history(behaviour=GOOD_ONLY, plan=P))
        self.assertIsNone(harm_ring(behaviour=GOOD_ONLY, plan=ENDLESS))
        table = harm_table(behaviour=GOOD_ONLY, plan=P)
        self.assertIsNone(harm_table_fault(behaviour=GOOD_ONLY, table=table, plan=P))
        self.assertIs(True, is_harm_ring(ring=[(2,)], history=[], plan=ENDLESS))
        self.assertIs(False, is_harm_ring(behaviour=GOOD_ONLY, ring=[(2,)], history=[], plan=ENDLESS))

    def test_none_is_the_behaviour_that_is_left_out(self):
        for plan in (P, R, ENDLESS):
            self.assertEqual(greatest_harm(plan), greatest_harm(plan, None))
            self.assertEqual(harm_history(plan), harm_history(plan, None))
            self.assertEqual(harm_table(plan), harm_table(plan, None))
        self.assertIsNone(harm_ring(P, None))
        self.assertIs(True, is_harm_ring(ENDLESS, [], [(2,)], None))
        self.assertIsNone(harm_table_fault(P, harm_table(P), None))


class GreatestHarm(Case):
    def test_no_upper_bound(self):
        self.assertIsNone(greatest_harm(ENDLESS))
        self.assertIsNone(harm_history(ENDLESS))
        self.assertIsNone(harm_table(ENDLESS))
        self.assertIsNone(greatest_harm(R))

    def test_ring_of_all_pairs_that_adds_as_little_as_can_be(self):
        plan = changed(ENDLESS, (2, 0, 0), (100,))
        for many in (1, 2, 3, 6):
            told = (many, ((0, (2,), 1 % many),) + tuple((at, (0,), (at + 1) % many) for at in range(1, many)))
            self.assertEqual([None, None, None], [greatest_harm(plan, told), harm_history(plan, told), harm_table(plan, told)])
            self.assertIs(True, grows_always((plan,), *harm_ring(plan, told), told))

    def test_walks_that_share_a_history(self):
        # One letter leads to two nodes, with as much harm ahead; the later node may read the lesser letter.
        told = (4, ((0, (2,), 1), (0, (2,), 2), (1, (1,), 3), (2, (0,), 3), (3, (2,), 3)))
        plan = one_signal(((500,), 3, (), ()))
        self.assertEqual([(2,), (0,), (2,)], harm_history(plan, told))
        self.assertEqual(8, greatest_harm(plan, told))

    def test_price_of_nothing(self):
        free = changed(ENDLESS, (1, 0, 3), 0)
        self.assertEqual([0, [], None], [greatest_harm(free), harm_history(free), harm_ring(free)])
        self.assertEqual([(("done", ()), 0, 0), (begin(free), 0, 0)], harm_table(free))

    def test_behaviour_bounds_the_harm(self):
        # At most three bad letters, one behind the other, and good ones in between.
        told = (4, tuple((at, (1,), at) for at in range(4)) + tuple((at, (2,), at + 1) for at in range(3)))
        plan = changed(ENDLESS, (2, 0, 2), ((0, 0, 1, 1),))
        self.assertEqual(15, greatest_harm(plan, told))
        self.assertEqual([(2,)] * 3, harm_history(plan, told))
        self.assertIsNone(harm_ring(plan, told))
        first = begin(plan)
        self.assertEqual([(first, 0, 15), (first, 1, 10), (first, 2, 5), (first, 3, 0)], harm_table(plan, told))

    def test_behaviour_without_edges(self):
        for told in ((1, ()), (6, ()), (BIG, ())):
            self.assertEqual([0, [], None], [greatest_harm(ENDLESS, told), harm_history(ENDLESS, told), harm_ring(ENDLESS, told)])
            self.assertEqual([(begin(ENDLESS), 0, 0)], harm_table(ENDLESS, told))
            self.assertIsNone(harm_table_fault(ENDLESS, [(begin(ENDLESS), 0, 0)], told))

    def test_nodes_that_no_walk_reaches(self):
        told = (3, ((0, (1,), 0), (1, (2,), 1), (1, (2,), 0), (2, (None,), 0)))
        self.assertEqual(0, greatest_harm(ENDLESS, told))
        self.assertEqual({0}, {node for _, node, _ in harm_table(ENDLESS, told)})

    def test_several_edges_for_one_letter(self):
        # The first bad letter leads to node 1, from which there is no more, or to node 2, with one more.
        told = (3, ((0, (2,), 1), (0, (2,), 2), (2, (2,), 1), (0, (2,), 1)))
        self.assertEqual(10, greatest_harm(ENDLESS, told))
        self.assertEqual([(2,), (2,)], harm_history(ENDLESS, told))
        first = begin(ENDLESS)
        self.assertEqual([(first, 0, 10), (first, 1, 0), (first, 2, 5)], harm_table(ENDLESS, told))

    def test_fewest_periods_come_ahead_of_the_least_history(self):
        # Three letters of grade 0 and a bad one, or one good letter and a bad one.
        edges = ((0, (0,), 1), (1, (0,), 2), (2, (0,), 3), (3, (2,), 4), (0, (1,), 5), (5, (2,), 4))
        plan = changed(ENDLESS, (2, 0, 2), ((0, 2, 1, 1),))
        self.assertEqual([(1,), (2,)], harm_history(plan, (6, edges)))
        self.assertEqual([(0,), (0,), (0,), (2,)], harm_history(plan, (6, edges[:-1])))

    def test_least_of_the_shortest_histories(self):
        plan = two_regions(((500, 500), 3, (), ()), ((1000, 1000), 1, (), ()))
        self.assertEqual([(2, 2)] * 4, harm_history(plan))
        told = (1, ((0, (1, 1), 0), (0, (0, 2), 0), (0, (2, 0), 0), (0, (1, 2), 0)))
        self.assertEqual([(0, 2)] * 4, harm_history(plan, told))
        free = changed(plan, (1, 1, 3), 0)
        self.assertEqual([(2, 0)] * 4, harm_history(free))

    def test_no_period_that_adds_nothing_at_the_end(self):
        plan = one_signal(((500,), 2, (), ()), ((0,), 3, (), ()))
        self.assertEqual([(2,), (2,)], harm_history(plan))
        self.assertEqual([], harm_history(one_signal(((0,), 3, (), STOP))))

    def test_against_slow_searches(self):
        bounded = 0
        for plan, told in small_cases(20, 60) + small_cases(21, 25, signals=2):
            with self.subTest(plan=plan, told=told):
                worth = best_worths((plan,), told)
                self.assertEqual(None if worth is None else worth[(begin(plan), 0)], greatest_harm(plan, told))
                self.assertEqual(table_of(worth), harm_table(plan, told))
                letters = harm_history(plan, told)
                ring = harm_ring(plan, told)
                if worth is None:
                    self.assertIsNone(letters)
                    self.assertIs(True, grows_always((plan,), *ring, told))
                    self.assertIs(True, is_harm_ring(plan, *ring, told))
                    continue
                bounded += 1
                self.assertIsNone(ring)
                self.assertIs(True, is_possible(len(plan[1]), told, letters))
                self.assertEqual(worth[(begin(plan), 0)], harm_of(plan, letters))
                most = 6 if len(plan[1]) == 1 else 3
                best, found = first_best((plan,), told, most)
                if best == greatest_harm(plan, told):
                    self.assertEqual(found, letters)
                else:
                    self.assertGreater(len(letters), most)
        self.assertGreater(bounded, 100)

    def test_limits(self):
        plan = big_plan()
        self.assertEqual(93, len(states(plan)))
        with at_once(10):
            for told in (None, big_behaviour(1), big_behaviour(3), (1, ((0, (0, 2), 0), (0, (2, 1), 0)))):
                worth = best_worths((plan,), told)
                self.assertIsNone(worth)
                self.assertIsNone(greatest_harm(plan, told))
                self.assertIs(True, is_harm_ring(plan, *harm_ring(plan, told), told))

    def test_limits_with_an_upper_bound(self):
        plan = big_plan()
        # Letters that are bad at both signals lead one node further, up to the last one.
        told = (6, tuple((at, (2, 2), at + 1) for at in range(5)) + tuple((at, (0, 0), at) for at in range(6)))
        due = 5 * BIG * (630 + BIG * 300 // 1000)
        with at_once(10):
            for _ in range(20):
                self.assertEqual(due, greatest_harm(plan, told))
                letters = harm_history(plan, told)
        # Three bad letters side by side stop the plan, but only behind the harm of the third one.
        self.assertEqual([(2, 2), (2, 2), (0, 0), (2, 2), (2, 2), (2, 2)], letters)
        self.assertEqual(due, harm_of(plan, letters))
        table = harm_table(plan, told)
        self.assertEqual(due, dict(((state, node), most) for state, node, most in table)[(begin(plan), 0)])
        self.assertIsNone(harm_table_fault(plan, table, told))

    def test_new_lists(self):
        for function in (harm_history, harm_table):
            self.gives_new_lists(function, P)
            self.gives_new_lists(function, P, GOOD_ONLY)
            self.gives_new_lists(function, ENDLESS, (1, ()))
        first, second = harm_ring(ENDLESS), harm_ring(ENDLESS)
        self.assertEqual(first, second)
        self.assertIsNot(first[0], second[0])
        self.assertIsNot(first[1], second[1])
        self.assertIsNot(first[0], first[1])


class Rings(Case):
    def test_rings(self):
        for history, ring, due in (
            ([], [(2,)], True), ([(2,)], [(0,), (2,)], True), ([], [], False), ([(2,)], [], False), ([], [(0,)], False),
            ([], [(1,)], False), ([], [(2,), (1,)], False), ([(1,)], [(2,)], False), ([(0,)], [(2,), (2,), (0,)], True),
        ):
            with self.subTest(history=history, ring=ring):
                self.assertIs(due, is_harm_ring(ENDLESS, history, ring))

    def test_ring_that_is_not_possible_for_ever(self):
        # Each bad letter leads a node further; node 3 is the last one.
        told = (4, tuple((at, (2,), at + 1) for at in range(3)) + ((3, (0,), 3),))
        self.assertIs(False, is_harm_ring(ENDLESS, [], [(2,)], told))
        self.assertIs(True, is_harm_ring(ENDLESS, [], [(2,)], (4, (*told[1], (3, (2,), 0)))))
        self.assertIs(False, is_harm_ring(ENDLESS, [(0,)], [(2,)], told))
        self.assertIs(False, is_harm_ring(ENDLESS, [(2,)], [(2,)], (1, ())))

    def test_ring_on_several_walks(self):
        told = (2, ((0, (2,), 0), (0, (2,), 1), (1, (0,), 0)))
        self.assertIs(True, is_harm_ring(ENDLESS, [], [(2,), (0,)], told))
        self.assertIs(True, is_harm_ring(ENDLESS, [(2,)], [(2,), (0,)], told))
        self.assertIs(True, is_harm_ring(ENDLESS, [(2,)], [(0,), (2,)], told))
        self.assertIs(False, is_harm_ring(ENDLESS, [], [(0,), (2,)], told))

    def test_harm_that_ends_behind_some_rings(self):
        # Two tries are left at first, so the third bad letter stops the plan.
        plan = one_signal(((500,), 9, ((0, 1, 9, 9),), (((0, 2, 1, 1), ("back", 0)),)), tries=2)
        self.assertIs(False, is_harm_ring(plan, [], [(2,)]))
        self.assertIs(False, is_harm_ring(plan, [(2,)], [(2,)]))
        plan = two_regions(((500, 0), 1, ((0, 1, 1, 1),), (((0, 2, 3, 4), ("drop", 0)),)))
        self.assertIs(False, is_harm_ring(plan, [], [(2, 2)]))
        self.assertIs(True, is_harm_ring(plan, [], [(2, 2), (0, 2)]))
        self.assertIs(True, is_harm_ring(changed(plan, (2, 0, 0), (500, 1)), [], [(2, 2), (0, 2)]))

    def test_state_that_comes_back_behind_several_rings(self):
        # A ring of two periods shifts the tail of four.
        plan = one_signal(((500,), 1, ((0, 1, 2, 4), (0, 0, 2, 4), (0, 2, 4, 4)), ()))
        self.assertIs(True, is_harm_ring(plan, [], [(2,), (0,), (1,)]))
        self.assertIs(True, is_harm_ring(plan, [(1,), (1,)], [(2,)] * 4))

    def test_long_lists(self):
        with at_once(10):
            for _ in range(20):
                self.assertIs(True, is_harm_ring(big_plan(), [(0, 0)] * 200, [(0, 2), (2, 0)] * 100))
                self.assertIs(True, is_harm_ring(big_plan(), [(0, 0)] * 200, [(0, 2), (2, 0)] * 100, big_behaviour(1, 200)))
                self.assertIs(False, is_harm_ring(big_plan(), [(0, 2)] * 200, [(0, 2), (2, 0)] * 100))
                self.assertIs(False, is_harm_ring(big_plan(), [(0, 0)] * 200, [(0, 0)] * 199 + [(2, 2)] * 3))

    def test_against_slow_rings(self):
        source = random.Random(22)
        found = {True: 0, False: 0}
        for plan, told in small_cases(23, 60) + small_cases(24, 20, signals=2):
            letters = letters_of(len(plan[1]))
            for _ in range(12):
                history = [source.choice(letters) for _ in range(source.randrange(4))]
                ring = [source.choice(letters) for _ in range(source.randrange(4))]
                due = grows_always((plan,), history, ring, told)
                found[due] += 1
                self.assertIs(due, is_harm_ring(plan, history, ring, told), (plan, history, ring, told))
        self.assertGreater(min(found.values()), 40)


class RingsOfGreatPlans(Case):
    """Plans with so many states that only those along the two lists can be looked at in time."""

    def test_states(self):
        self.assertEqual(288, len(states(MANY_STATES)))

    def test_rings(self):
        # A bad second letter adds harm in the first stage, until two of them side by side drop the region.
        for history, ring, due in (
            ([], [(0, 2)], False), ([], [(0, 2), (0, 0)], True), ([(0, 2)], [(0, 0), (0, 2)], True), ([], [(1, 0)], False),
            ([(0, 1)], [(2, 2)], False), ([(2, 0)], [(0, 2), (0, 1)], True), ([(2, 0), (2, 0)], [(0, 2), (0, 1)], False),
            ([], [], False), ([(0, 2)], [], False), ([], [(0, 0)], False), ([(0, 0)] * 200, [(0, 2), (1, 0), (0, 0)] * 60, True),
            ([(1, 1), (1, 1), (0, 0)], [(2, 0), (0, 0), (0, 0)], True), ([(1, 1), (1, 1), (0, 0)], [(2, 0), (0, 0)], False),
        ):
            with self.subTest(history=history[:3], ring=ring[:3]):
                self.assertIs(due, is_harm_ring(RINGED, history, ring))
                self.assertIs(due, grows_always((RINGED,), history, ring, None))
        for history, ring in (([(0, 1)], [(2, 2)]), ([(1, 1)], [(0, 2)])):
            self.assertIs(grows_always((MANY_STATES,), history, ring, None), is_harm_ring(MANY_STATES, history, ring))

    def test_behaviours(self):
        free = ((0, (None, None), 0),)
        for told, due in (
            (None, True), ((1, free), True), ((2, ((0, (0, 2), 1), (1, (None, 0), 0))), True), ((2, ((0, (0, 2), 1), (1, (0, 1), 0))), False),
            # The ring leads to other nodes, and from the last of them on it is not possible.
            ((5, tuple((at, (None, None), at + 1) for at in range(4))), False),
            ((5, tuple((at, (None, None), (at + 1) % 5) for at in range(5))), True), ((1, ()), False), ((3, free + ((0, (0, 0), 2),)), True),
            # One walk ends, and another one goes on.
            ((4, ((0, (0, 2), 1), (0, (0, 2), 2), (1, (0, 0), 3), (2, (0, 0), 0))), True),
            ((4, ((0, (0, 2), 1), (0, (0, 2), 2), (1, (0, 0), 3), (2, (0, 1), 0))), False),
        ):
            with self.subTest(told):
                self.assertIs(due, is_harm_ring(RINGED, [], [(0, 2), (0, 0)], told))
                self.assertIs(due, grows_always((RINGED,), [], [(0, 2), (0, 0)], told))

    def test_against_slow_rings(self):
        source = random.Random(27)
        found = {True: 0, False: 0}
        for plan in (MANY_STATES, RINGED, big_plan()):
            for told in some_behaviours(28, 6, 2, nodes=4, edges=14):
                for _ in range(14):
                    history = [source.choice(SOFT) for _ in range(source.randrange(5))]
                    ring = [source.choice(SOFT) for _ in range(source.randrange(6))]
                    due = grows_always((plan,), history, ring, told)
                    found[due] += 1
                    self.assertIs(due, is_harm_ring(plan, history, ring, told), (plan, history, ring, told))
        self.assertGreater(min(found.values()), 15)

    def test_a_thousand_questions(self):
        began = time.process_time()
        for at in range(500):
            is_harm_ring(MANY_STATES, [(0, 1)], [(2, 2)])
            is_harm_ring(MANY_STATES, [(1, 1)], [(0, 2)])
        # Some 0.05 seconds where this was written.
        self.assertLess(time.process_time() - began, 0.5)


class TableFaults(Case):
    def test_words(self):
        table = harm_table(P)
        self.assertIsNone(harm_table_fault(P, table))
        place = table.index((begin(P), 0, 990))
        # No pair leads back to the first one, so its number may be greater.
        for number, due in ((0, ("low", place)), (989, ("low", place)), (990, None), (991, None), (10 ** 99, None)):
            with self.subTest(number):
                other = [*table[:place], (begin(P), 0, number), *table[place + 1:]]
                self.assertEqual(due, harm_table_fault(P, other))

    def test_begin(self):
        self.assertEqual(("begin", None), harm_table_fault(P, []))
        self.assertEqual(("begin", None), harm_table_fault(P, [(("stopped",), 0, 0)]))
        self.assertEqual(("begin", None), harm_table_fault(P, [row for row in harm_table(P) if row[0] != begin(P)]))
        told = (2, ((0, (1,), 1),))
        self.assertEqual(("begin", None), harm_table_fault(P, [(begin(P), 1, 0)], told))

    def test_missing_ahead_of_low(self):
        first = begin(ENDLESS)
        self.assertEqual(("missing", 0), harm_table_fault(ENDLESS, [(first, 0, 0)]))
        self.assertEqual(("low", 1), harm_table_fault(ENDLESS, [(("done", ()), 0, 0), (first, 0, 0)]))
        self.assertEqual(("low", 1), harm_table_fault(ENDLESS, [(("done", ()), 0, 0), (first, 0, 10 ** 99)]))
        self.assertEqual(("low", 1), harm_table_fault(changed(ENDLESS, (1, 0, 3), 0), [(("done", ()), 0, 9), (first, 0, 8)]))
        self.assertIsNone(harm_table_fault(changed(ENDLESS, (1, 0, 3), 0), [(("done", ()), 0, 9), (first, 0, 9)]))

    def test_least_index(self):
        plan = one_signal(((500,), 1, (), ()), ((1000,), 1, (), ()))
        table = harm_table(plan)
        self.assertEqual([(("done", ()), 0, 0), (("open", 0, 0, (), (), 0), 0, 12), (("open", 1, 0, (), (), 0), 0, 8)], table)
        self.assertEqual(("low", 1), harm_table_fault(plan, [table[0], (table[1][0], 0, 10), (table[2][0], 0, 7)]))
        self.assertEqual(("low", 2), harm_table_fault(plan, [table[0], (table[1][0], 0, 12), (table[2][0], 0, 7)]))
        self.assertEqual(("missing", 0), harm_table_fault(plan, table[1:2]))
        self.assertEqual(("missing", 1), harm_table_fault(plan, table[1:]))
        self.assertEqual(("missing", 1), harm_table_fault(plan, table[:2]))

    def test_states_that_no_history_leads_to(self):
        table = harm_table(P)
        more = sorted([*table, (("done", (0,)), 0, 0), (("done", (1,)), 0, 5), (("open", 1, 0, ((0,),), (), 1), 0, 900)])
        self.assertIsNone(harm_table_fault(P, more))
        at = more.index((("open", 1, 0, ((0,),), (), 1), 0, 900))
        self.assertEqual(("low", at), harm_table_fault(P, [row if k != at else (*row[:2], 899) for k, row in enumerate(more)]))
        lone = sorted([*table, (("open", 1, 0, (), (1,), 1), 0, 900)])
        self.assertEqual(("missing", lone.index((("open", 1, 0, (), (1,), 1), 0, 900))), harm_table_fault(P, lone))

    def test_nodes_without_walks(self):
        told = (3, ((0, (1,), 0), (1, (2,), 1)))
        table = sorted([*harm_table(P, told), (begin(P), 2, 0)])
        self.assertIsNone(harm_table_fault(P, table, told))
        table = sorted([*harm_table(P, told), (begin(P), 1, 10 ** 9)])
        self.assertEqual(("missing", table.index((begin(P), 1, 10 ** 9))), harm_table_fault(P, table, told))

    def test_against_the_slow_judge(self):
        tested = 0
        for plan, told in small_cases(25, 30) + small_cases(26, 10, signals=2):
            table = harm_table(plan, told)
            if table is None or len(table) > 14:
                continue
            tested += 1
            self.assertIsNone(harm_table_fault(plan, table, told))
            for other in changed_tables(table):
                self.assertEqual(judged((plan,), other, told), harm_table_fault(plan, other, told), (plan, other, told))
        self.assertGreater(tested, 40)

    def test_arguments_do_not_change(self):
        table = harm_table(P)
        kept = copy.deepcopy(table)
        harm_table_fault(P, table)
        history, ring = [(2,)], [(2,), (0,)]
        is_harm_ring(ENDLESS, history, ring)
        self.assertEqual([kept, [(2,)], [(2,), (0,)]], [table, history, ring])


class WrongArguments(Case):
    def test_plan(self):
        for wrong in NOT_PLANS:
            with self.subTest(wrong):
                for function in (greatest_harm, harm_history, harm_ring, harm_table):
                    self.fails(NotAPlan, function, wrong)
                self.fails(NotAPlan, is_harm_ring, wrong, [], [])
                self.fails(NotAPlan, harm_table_fault, wrong, [])

    def test_behaviour(self):
        for wrong in WRONG_BEHAVIOURS:
            with self.subTest(wrong):
                for function in (greatest_harm, harm_history, harm_ring, harm_table):
                    self.fails(InvalidBehaviour, function, R, wrong)
                self.fails(InvalidBehaviour, is_harm_ring, R, [], [], wrong)
                self.fails(InvalidBehaviour, harm_table_fault, R, [], wrong)
        self.fails(InvalidBehaviour, greatest_harm, R, GOOD_ONLY)
        self.fails(InvalidBehaviour, harm_table_fault, R, None, GOOD_ONLY)

    def test_letters(self):
        wrongs = [value for value in NOT_INTEGERS if value != []] + [((1, 1),), "11", (1, 1)]
        wrongs += [[wrong] for wrong in NOT_LETTERS] + [[(1, 1), wrong, (1, 1)] for wrong in NOT_LETTERS]
        for wrong in wrongs:
            with self.subTest(wrong):
                self.fails(InvalidLetters, is_harm_ring, R, wrong, [])
                self.fails(InvalidLetters, is_harm_ring, R, [], wrong)
                self.fails(InvalidLetters, is_harm_ring, R, [(1, 1)], wrong)

    def test_table(self):
        state = begin(R)
        wrongs = [value for value in NOT_INTEGERS if value != []] + [((state, 0, 0),), "table", {(state, 0, 0): True}]
        rows = [
            *NOT_INTEGERS, (state, 0), (state, 0, 0, 0), [state, 0, 0], (None, 0, 0), (list(state), 0, 0), (("done",), 0, 0),
            (("open", 0, 0, (), (), 1), 0, 0), (("done", (0, 1)), 0, 0), (state, 2, 0), (state, -1, 0), (state, True, 0),
            (state, None, 0), (state, 0, -1), (state, 0, True), (state, 0, None), (state, 0, 1.0), (state, "0", 0),
            (begin(P), 0, 0), ((), 0, 0), (0, state, 0),
        ]
        good = [(("done", ()), 0, 0), (("stopped",), 0, 0)]
        told = (2, ((0, (1, None), 1),))
        for wrong in wrongs + [[row] for row in rows] + [[good[0], row, good[1]] for row in rows]:
            with self.subTest(wrong):
                self.fails(InvalidTable, harm_table_fault, R, wrong)
                self.fails(InvalidTable, harm_table_fault, R, wrong, told)

    def test_nodes_of_the_table(self):
        self.fails(InvalidTable, harm_table_fault, R, [(begin(R), 1, 0)])
        self.fails(InvalidTable, harm_table_fault, R, [(begin(R), 1, 0)], (1, ()))
        self.assertEqual(("begin", None), harm_table_fault(R, [(begin(R), 1, 0)], (2, ())))

    def test_order_of_the_table(self):
        table = harm_table(P)
        self.fails(InvalidTable, harm_table_fault, P, table[::-1])
        self.fails(InvalidTable, harm_table_fault, P, [*table, table[-1]])
        self.fails(InvalidTable, harm_table_fault, P, [table[0], (*table[0][:2], 5), *table[1:]])
        for at in range(1, len(table)):
            self.fails(InvalidTable, harm_table_fault, P, [*table[:at - 1], table[at], table[at - 1], *table[at + 1:]])
        told = (2, ((0, (1,), 1), (0, (None,), 0)))
        table = harm_table(P, told)
        self.assertIsNone(harm_table_fault(P, table, told))
        self.fails(InvalidTable, harm_table_fault, P, sorted(table, key=lambda row: (row[1], row[0])), told)

    def test_first_wrong_argument_tells(self):
        for function in (greatest_harm, harm_history, harm_ring, harm_table):
            self.fails(NotAPlan, function, None, ())
        self.fails(NotAPlan, is_harm_ring, None, None, None, ())
        self.fails(InvalidLetters, is_harm_ring, P, None, [], ())
        self.fails(InvalidLetters, is_harm_ring, P, [], None, ())
        self.fails(NotAPlan, harm_table_fault, None, None, ())
        self.fails(InvalidBehaviour, harm_table_fault, P, None, ())
        self.fails(InvalidBehaviour, harm_table_fault, behaviour=(), table=None, plan=P)


if __name__ == "__main__":
    unittest.main()
