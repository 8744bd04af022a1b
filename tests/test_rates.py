"""Point [20]: rates of harm."""

import copy
import itertools
import math
import unittest
from fractions import Fraction

from stagedplans.behaviours import is_possible
from stagedplans.errors import InvalidBehaviour, InvalidRate, InvalidTable, NotAPlan
from stagedplans.harm import harm_of
from stagedplans.rates import harm_rate, rate_ring, rate_table, rate_table_fault
from stagedplans.states import begin, states
from stagedplans.worst import greatest_harm, harm_table
from tests.helper import BIG, Case, NOT_INTEGERS, NOT_PLANS, P, R, at_once, changed
from tests.slow import all_keys, best_worths, changed_tables, judged, some_behaviours, table_of
from tests.test_behaviours import WRONG_BEHAVIOURS
from tests.test_states import one_signal, two_regions
from tests.test_worst import ENDLESS, GOOD_ONLY, big_behaviour, big_plan, small_cases

# The plan s of the document's example.
S = (((10, 1, 0, 0),), ((0, 20, 50, 4),), (((500,), 1, ((0, 1, 4, 4),), (((0, 2, 2, 2), ("stop",)),)),), 0)
NOT_RATES = (
    *NOT_INTEGERS, 1, (1,), (1, 1, 1), [1, 1], "11", (0, 0), (1, 0), (-1, 1), (1, -1), (0, 2), (2, 2), (10, 4), (6, 3),
    (True, 1), (1, True), (False, 1), (None, 1), (1, None), (1.0, 1), (1, 1.0), ("1", 1), ((1,), 1), (-3, -1), (10 ** 99, 10),
)


def slow_rate(plan, behaviour):
    """Return the greatest gain of a ring for each of its periods, over all walks of as many periods as there are pairs.

    The mean of the best ring is the greatest one, over the pairs, of the least one, over the
    lengths, of the means by which the best walks of the full length exceed shorter ones.
    """
    keys = all_keys((plan,), behaviour)
    many = len(keys)
    rows = [{(begin(plan), 0): 0}]
    for _ in range(many):
        longer = {}
        for key, gain in rows[-1].items():
            for behind, _, more in keys[key]:
                longer[behind] = max(longer.get(behind, 0), gain + more)
        rows.append(longer)
    means = [
        min(Fraction(gain - row[key], many - at) for at, row in enumerate(rows[:-1]) if key in row)
        for key, gain in rows[-1].items()
    ]
    best = max(means, default=None)
    return None if best is None else (best.numerator, best.denominator)


def endless_cases(seed, many):
    """Return a plan whose stages go on until good letters, with behaviours of many rings."""
    plan = two_regions(((500, 500), 1, ((0, 1, 1, 1),), ()), ((1000, 1000), 1, ((1, 1, 2, 2),), ()))
    return [(plan, told) for told in some_behaviours(seed, many, 2, nodes=4, edges=7)]


def near_rates(rate):
    """Return rates below, at and above a rate."""
    top, bottom = rate
    near = [(0, 1), rate, (top + 1, bottom), (2 * top + 1, 2 * bottom), (10 * top + 1, 10 * bottom), (top + 10 ** 99, bottom)]
    near += [(10 * top - 1, 10 * bottom), (top - 1, bottom)]
    return [
        (upper // math.gcd(upper, lower), lower // math.gcd(upper, lower))
        for upper, lower in near if upper >= 0
    ]


class Examples(Case):
    def test_document(self):
        self.assertEqual((10, 1), harm_rate(S))
        self.assertEqual((0, 1), harm_rate(P))

    def test_arguments_by_name(self):
        self.assertEqual((0, 1), harm_rate(behaviour=GOOD_ONLY, plan=S))
        self.assertIsNone(rate_table(rate=(9, 1), plan=S))
        table = rate_table(behaviour=None, rate=(10, 1), plan=S)
        self.assertIsNone(rate_table_fault(behaviour=None, table=table, rate=(10, 1), plan=S))
        self.assertIsNone(rate_ring(behaviour=(1, ()), plan=S))

    def test_none_is_the_behaviour_that_is_left_out(self):
        self.assertEqual(harm_rate(S), harm_rate(S, None))
        self.assertEqual(rate_table(S, (10, 1)), rate_table(S, (10, 1), None))
        self.assertIsNone(rate_table_fault(S, (10, 1), rate_table(S, (10, 1)), None))


class HarmRate(Case):
    def test_rates(self):
        for needs, told, due in (
            (((0, 1, 1, 1),), None, (5, 1)),
            (((0, 1, 1, 1),), (2, ((0, (2,), 1), (1, (0,), 0))), (5, 2)),
            (((0, 1, 1, 1),), (3, ((0, (2,), 1), (1, (0,), 2), (2, (0,), 0))), (5, 3)),
            (((0, 1, 1, 1),), (3, ((0, (2,), 1), (1, (2,), 2), (2, (0,), 0), (0, (0,), 0))), (10, 3)),
            (((0, 1, 1, 1),), (2, ((0, (2,), 1), (1, (0,), 1))), (0, 1)),
            (((0, 1, 1, 1),), (1, ()), (0, 1)),
            (((0, 1, 1, 1),), GOOD_ONLY, (0, 1)),
            ((), None, (0, 1)),
        ):
            with self.subTest(needs=needs, told=told):
                self.assertEqual(due, harm_rate(changed(ENDLESS, (2, 0, 2), needs), told))

    def test_price_of_nothing(self):
        self.assertEqual((0, 1), harm_rate(changed(ENDLESS, (1, 0, 3), 0)))

    def test_best_of_several_rings(self):
        # Rings of one, two and three periods, from one node.
        edges = ((0, (0,), 0), (0, (2,), 1), (1, (0,), 0), (0, (2,), 2), (2, (2,), 3), (3, (0,), 0))
        for many, due in ((1, (0, 1)), (3, (5, 2)), (6, (10, 3))):
            self.assertEqual(due, harm_rate(ENDLESS, (4, edges[:many])))
        self.assertEqual((5, 2), harm_rate(ENDLESS, (4, edges[1:3])))

    def test_against_slow_rates(self):
        found = {}
        for plan, told in small_cases(40, 40) + small_cases(41, 15, signals=2) + endless_cases(46, 60):
            if len(states(plan)) > 14:
                continue
            due = slow_rate(plan, told)
            with self.subTest(plan=plan, told=told):
                self.assertEqual((0, 1) if due is None else due, harm_rate(plan, told))
                ring = rate_ring(plan, told)
                self.assertIs(due is None, ring is None)
                if due is not None:
                    self.judge_ring(plan, told, ring, due)
                if greatest_harm(plan, told) is not None:
                    self.assertEqual((0, 1), harm_rate(plan, told))
                else:
                    self.assertGreater(harm_rate(plan, told)[0], 0)
                found[due] = True
        self.assertGreater(len(found), 12)

    def judge_ring(self, plan, told, ring, rate):
        history, turn = ring
        self.assertIsInstance(history, list)
        self.assertIsInstance(turn, list)
        self.assertGreater(len(turn), 0)
        harms = [harm_of(plan, history + turn * times) for times in range(30)]
        for one, other in itertools.pairwise(harms):
            self.assertEqual(rate[0] * len(turn), rate[1] * (other - one))
        self.assertIs(True, is_possible(len(plan[1]), told, history + turn * 30))

    def test_rings(self):
        self.judge_ring(S, None, rate_ring(S), (10, 1))
        self.judge_ring(P, None, rate_ring(P), (0, 1))
        self.judge_ring(ENDLESS, None, rate_ring(ENDLESS), (5, 1))
        told = (3, ((0, (1,), 1), (1, (None,), 2), (2, (0,), 1)))
        plan = changed(ENDLESS, (2, 0, 2), ((0, 2, 2, 2),))
        self.judge_ring(plan, told, rate_ring(plan, told), (5, 2))

    def test_no_ring_with_a_longest_history(self):
        for told in ((1, ()), (3, ((0, (None,), 1), (1, (None,), 2))), (2, ((0, (2,), 1), (0, (1,), 1)))):
            self.assertIsNone(rate_ring(ENDLESS, told))
            self.assertEqual((0, 1), harm_rate(ENDLESS, told))
        # A ring that no walk reaches is none.
        self.assertIsNone(rate_ring(ENDLESS, (3, ((0, (2,), 1), (2, (2,), 2)))))
        # Without a behaviour there always is a ring, also of a plan that is done at once.
        plan = one_signal(((500,), 1, (), ()))
        self.judge_ring(plan, None, rate_ring(plan), (0, 1))

    def test_limits(self):
        plan = big_plan()
        with at_once(20):
            for told in (None, big_behaviour(1), big_behaviour(2), big_behaviour(3)):
                for _ in range(5):
                    rate = harm_rate(plan, told)
                    self.judge_ring(plan, told, rate_ring(plan, told), rate)
                    table = rate_table(plan, rate, told)
                    self.assertIsNone(rate_table_fault(plan, rate, table, told))
                self.assertIsNone(rate_table(plan, (rate[0] * BIG - 1, rate[1] * BIG), told))


class RateTables(Case):
    def test_zero_rate_is_the_table_of_harm(self):
        for plan, told in small_cases(42, 20):
            self.assertEqual(harm_table(plan, told), rate_table(plan, (0, 1), told))
        self.assertIsNone(rate_table(ENDLESS, (0, 1)))

    def test_excess(self):
        first = begin(ENDLESS)
        self.assertIsNone(rate_table(ENDLESS, (4, 1)))
        self.assertIsNone(rate_table(ENDLESS, (49, 10)))
        for rate in ((5, 1), (51, 10), (BIG, 1), (10 ** 99, 1)):
            self.assertEqual([(("done", ()), 0, 0), (first, 0, 0)], rate_table(ENDLESS, rate))
        told = (2, ((0, (2,), 1), (1, (0,), 0)))
        self.assertEqual([(first, 0, 5), (first, 1, 0)], rate_table(ENDLESS, (5, 2), told))
        self.assertEqual([(first, 0, 2), (first, 1, 0)], rate_table(ENDLESS, (3, 1), told))
        self.assertEqual([(first, 0, 0), (first, 1, 0)], rate_table(ENDLESS, (6, 1), told))
        self.assertIsNone(rate_table(ENDLESS, (12, 5), told))

    def test_against_slow_tables(self):
        kinds = {True: 0, False: 0}
        for plan, told in small_cases(43, 40) + small_cases(44, 10, signals=2) + endless_cases(47, 20):
            if len(states(plan)) > 14:
                continue
            for rate in near_rates(harm_rate(plan, told)):
                with self.subTest(plan=plan, told=told, rate=rate):
                    due = table_of(best_worths((plan,), told, *rate))
                    kinds[due is None] += 1
                    self.assertEqual(due, rate_table(plan, rate, told))
                    below = Fraction(*rate) < Fraction(*harm_rate(plan, told))
                    self.assertIs(below, due is None)
        self.assertGreater(min(kinds.values()), 30)

    def test_faults(self):
        table = [(("done", ()), 0, 0), (begin(ENDLESS), 0, 0)]
        self.assertIsNone(rate_table_fault(ENDLESS, (5, 1), table))
        self.assertIsNone(rate_table_fault(ENDLESS, (11, 2), table))
        self.assertEqual(("low", 1), rate_table_fault(ENDLESS, (9, 2), table))
        self.assertEqual(("low", 1), rate_table_fault(ENDLESS, (0, 1), table))
        self.assertEqual(("missing", 0), rate_table_fault(ENDLESS, (5, 1), table[1:]))
        self.assertEqual(("begin", None), rate_table_fault(ENDLESS, (5, 1), table[:1]))
        self.assertEqual(("begin", None), rate_table_fault(ENDLESS, (5, 1), []))
        told = (2, ((0, (2,), 1), (1, (0,), 0)))
        first = begin(ENDLESS)
        self.assertIsNone(rate_table_fault(ENDLESS, (5, 2), [(first, 0, 5), (first, 1, 0)], told))
        self.assertEqual(("low", 0), rate_table_fault(ENDLESS, (5, 2), [(first, 0, 4), (first, 1, 0)], told))
        self.assertIsNone(rate_table_fault(ENDLESS, (5, 2), [(first, 0, 9), (first, 1, 4)], told))
        self.assertEqual(("low", 1), rate_table_fault(ENDLESS, (5, 2), [(first, 0, 9), (first, 1, 3)], told))

    def test_against_the_slow_judge(self):
        tested = 0
        for plan, told in small_cases(45, 25):
            rate = harm_rate(plan, told)
            for other_rate in (rate, (rate[0] + 1, 1)):
                if math.gcd(*other_rate) != 1:
                    continue
                table = rate_table(plan, other_rate, told)
                if table is None or len(table) > 10:
                    continue
                tested += 1
                self.assertIsNone(rate_table_fault(plan, other_rate, table, told))
                for other in changed_tables(table):
                    due = judged((plan,), other, told, *other_rate)
                    self.assertEqual(due, rate_table_fault(plan, other_rate, other, told))
        self.assertGreater(tested, 30)

    def test_hundred_digits(self):
        rate = (10 ** 99, 10 ** 98 + 1)
        self.assertEqual(1, math.gcd(*rate))
        self.assertIsNone(rate_table(ENDLESS, (5 * 10 ** 99 - 1, 10 ** 99)))
        self.assertEqual(2, len(rate_table(ENDLESS, rate)))
        self.assertIsNone(rate_table_fault(ENDLESS, rate, [(("done", ()), 0, 0), (begin(ENDLESS), 0, 10 ** 100 - 1)]))

    def test_new_lists_and_arguments_that_do_not_change(self):
        self.gives_new_lists(rate_table, S, (10, 1))
        self.gives_new_lists(rate_table, P, (0, 1))
        one, other = rate_ring(S), rate_ring(S)
        self.assertEqual(one, other)
        self.assertEqual(4, len({id(part) for part in (*one, *other)}))
        table = rate_table(S, (10, 1))
        kept = copy.deepcopy(table)
        rate_table_fault(S, (10, 1), table)
        self.assertEqual(kept, table)


class WrongArguments(Case):
    def test_plan(self):
        for wrong in NOT_PLANS:
            with self.subTest(wrong):
                self.fails(NotAPlan, harm_rate, wrong)
                self.fails(NotAPlan, rate_table, wrong, (1, 1))
                self.fails(NotAPlan, rate_table_fault, wrong, (1, 1), [])
                self.fails(NotAPlan, rate_ring, wrong)

    def test_rate(self):
        for wrong in NOT_RATES:
            with self.subTest(wrong):
                self.fails(InvalidRate, rate_table, R, wrong)
                self.fails(InvalidRate, rate_table_fault, R, wrong, [])

    def test_behaviour(self):
        for wrong in WRONG_BEHAVIOURS:
            with self.subTest(wrong):
                self.fails(InvalidBehaviour, harm_rate, R, wrong)
                self.fails(InvalidBehaviour, rate_table, R, (1, 1), wrong)
                self.fails(InvalidBehaviour, rate_table_fault, R, (1, 1), [], wrong)
                self.fails(InvalidBehaviour, rate_ring, R, wrong)

    def test_table(self):
        state = begin(R)
        rows = [
            *NOT_INTEGERS, (state, 0), (state, 0, 0, 0), [state, 0, 0], (None, 0, 0), (begin(P), 0, 0), (state, 1, 0),
            (state, -1, 0), (state, False, 0), (state, 0, -1), (state, 0, True), (state, 0, None),
        ]
        wrongs = [value for value in NOT_INTEGERS if value != []] + [((state, 0, 0),), [(state, 0, 0)] * 2]
        wrongs += [[(("stopped",), 0, 0), (state, 0, 0)], [(state, 0, 0), (state, 0, 1)]]
        for wrong in wrongs + [[row] for row in rows] + [[(("done", ()), 0, 0), row] for row in rows]:
            with self.subTest(wrong):
                self.fails(InvalidTable, rate_table_fault, R, (1, 1), wrong)

    def test_first_wrong_argument_tells(self):
        self.fails(NotAPlan, harm_rate, None, ())
        self.fails(NotAPlan, rate_ring, None, ())
        self.fails(NotAPlan, rate_table, None, None, ())
        self.fails(InvalidRate, rate_table, P, None, ())
        self.fails(NotAPlan, rate_table_fault, None, None, None, ())
        self.fails(InvalidRate, rate_table_fault, P, None, None, ())
        self.fails(InvalidBehaviour, rate_table_fault, P, (1, 1), None, ())
        self.fails(InvalidBehaviour, rate_table_fault, behaviour=(), table=None, rate=(1, 1), plan=P)


if __name__ == "__main__":
    unittest.main()
