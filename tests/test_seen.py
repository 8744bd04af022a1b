"""Point [27]: which histories explain the counts that were seen."""

import copy
import random
import unittest

from stagedplans.errors import InvalidSeen, NotAPlan
from stagedplans.seen import count_explaining, explaining, next_counts, states_seen, unexplained
from stagedplans.states import begin, counts, state_after, states, step
from tests.helper import BIG, Case, NOT_INTEGERS, NOT_PLANS, P, R, at_once, histories_of, letters_of, model_after, some_plans
from tests.test_numbers import sixty_states
from tests.test_states import one_signal
from tests.test_worst import ENDLESS, big_plan

FORTY = 10 ** 40 - 1
ALL = (explaining, count_explaining, unexplained, states_seen, next_counts)


def shown(plan, letters):
    """Return the counts behind each period of a history."""
    return [tuple(model_after(plan, letters[:at]).counts()) for at in range(1, len(letters) + 1)]


def slow_rows(plan, seen):
    """Return the dicts from states to the numbers of histories, for each beginning of what was seen."""
    rows = [{begin(plan): 1}]
    for told in seen:
        behind = {}
        for state, number in rows[-1].items():
            for letter in letters_of(len(plan[1])):
                end = step(plan, state, letter)
                if tuple(counts(plan, end)) == told:
                    behind[end] = behind.get(end, 0) + number
        rows.append(behind)
    return rows


class Examples(Case):
    def test_document(self):
        self.assertEqual([(1,), (1,)], explaining(P, [(90, 0), (900, 5)]))
        self.assertEqual(7, count_explaining(P, [(90, 0), (90, 0)]))
        self.assertEqual(2, unexplained(P, [(90, 0), (0, 0), (90, 0)]))
        self.assertEqual([(0, 0), (90, 0), (900, 5)], next_counts(P, [(90, 0)]))

    def test_arguments_by_name(self):
        seen = [(90, 0), (900, 5)]
        self.assertEqual([(1,), (1,)], explaining(seen=seen, plan=P))
        self.assertEqual(1, count_explaining(seen=seen, plan=P))
        self.assertIsNone(unexplained(seen=seen, plan=P))
        self.assertEqual([("open", 1, 0, (), (), 1)], states_seen(seen=seen, plan=P))
        self.assertEqual([(900, 5)], next_counts(seen=seen, plan=P))


class Seen(Case):
    def test_nothing_seen(self):
        for plan in (P, R, ENDLESS, big_plan()):
            self.assertEqual([[], 1, None], [explaining(plan, []), count_explaining(plan, []), unexplained(plan, [])])
            self.assertEqual([begin(plan)], states_seen(plan, []))
        self.assertEqual([(90, 0)], next_counts(P, []))
        self.assertEqual([(10, 0), (10, 20)], next_counts(R, []))

    def not_explained(self, plan, seen, index):
        with self.subTest(plan=plan, seen=seen):
            self.assertEqual([None, 0, index, [], []], [function(plan, seen) for function in ALL])

    def test_not_explained_from_the_first_tuple_on(self):
        for told in ((91, 0), (90, 1), (0, 90), (900, 5), (0, 0), (-90, 0), (90, -1), (FORTY, 0), (-FORTY, FORTY), (89, 0)):
            self.not_explained(P, [told], 0)
            self.not_explained(P, [told, (90, 0), (90, 0)], 0)

    def test_not_explained_from_a_later_tuple_on(self):
        self.not_explained(P, [(90, 0), (90, 0), (901, 5)], 2)
        self.not_explained(P, [(90, 0), (900, 5), (90, 0)], 2)
        self.not_explained(P, [(90, 0), (0, 0), (0, 0), (90, 0), (0, 0)], 3)
        self.not_explained(P, [(90, 0)] * 199 + [(-FORTY, 0)], 199)
        # A dropped region stays dropped.
        self.not_explained(R, [(10, 0), (10, 20)], 1)

    def test_each_explained_alone_but_not_together(self):
        # The counts of the last stage only come behind those of the first one.
        plan = one_signal(((500,), 2, (), ()), ((1000,), 1, (), ()))
        self.assertIsNone(unexplained(plan, [(4,), (8,), (8,)]))
        self.not_explained(plan, [(4,), (4,)], 1)
        self.not_explained(plan, [(8,)], 0)

    def test_least_of_many(self):
        seen = [(90, 0)] * 4
        self.assertEqual([(0,)] * 4, explaining(P, seen))
        self.assertEqual(slow_rows(P, seen)[-1], {state: slow_rows(P, seen)[-1][state] for state in states_seen(P, seen)})
        # The first stage is passed by two good letters; what comes first decides.
        self.assertEqual([(0,), (1,), (1,), (0,)], explaining(P, [(90, 0), (90, 0), (900, 5), (900, 5)]))
        self.assertEqual([(0,), (2,), (2,)], explaining(P, [(90, 0), (90, 0), (0, 0)]))

    def test_states_with_equal_counts(self):
        # Both stages, and the end, have the same counts.
        plan = one_signal(((500,), 1, ((0, 1, 1, 1),), ()), ((500,), 1, ((0, 2, 1, 1),), ()))
        self.assertEqual([(0,)] * 3, explaining(plan, [(4,)] * 3))
        self.assertEqual(27, count_explaining(plan, [(4,)] * 3))
        self.assertEqual(
            [("done", ()), ("open", 0, 0, (), (), 0), ("open", 1, 0, (), (), 0)], states_seen(plan, [(4,)] * 3),
        )
        self.assertEqual([(4,)], next_counts(plan, [(4,)] * 3))

    def test_counts_of_nothing(self):
        # A stopped plan shows what a share of 0 shows.
        plan = one_signal(((0,), 2, (), (((0, 2, 1, 1), ("stop",)),)))
        self.assertEqual(9, count_explaining(plan, [(0,), (0,)]))
        self.assertEqual([("done", ()), ("stopped",)], states_seen(plan, [(0,), (0,)]))

    def test_against_all_short_histories(self):
        explained = 0
        for plan in some_plans(80, 40, regions=2, signals=1) + some_plans(81, 20, regions=2):
            for periods in range(5 if len(plan[1]) == 1 else 3):
                groups = {}
                for letters in histories_of(len(plan[1]), periods):
                    groups.setdefault(tuple(shown(plan, letters)), []).append(letters)
                for told, rows in groups.items():
                    explained += 1
                    seen = list(told)
                    ends = {state_after(plan, letters) for letters in rows}
                    behind = {tuple(counts(plan, step(plan, end, letter))) for end in ends for letter in letters_of(len(plan[1]))}
                    self.assertEqual(rows[0], explaining(plan, seen))
                    self.assertEqual(len(rows), count_explaining(plan, seen))
                    self.assertIsNone(unexplained(plan, seen))
                    self.assertEqual(sorted(ends), states_seen(plan, seen))
                    self.assertEqual(sorted(behind), next_counts(plan, seen))
                    for told in {row[-1] for row in groups if row} - behind:
                        self.not_explained(plan, [*seen, told], periods)
        self.assertGreater(explained, 500)

    def test_changed_counts(self):
        source = random.Random(82)
        for plan in some_plans(83, 30, regions=2):
            letters = [source.choice(letters_of(len(plan[1]))) for _ in range(30)]
            seen = shown(plan, letters)
            self.assertLessEqual(explaining(plan, seen), letters)
            self.assertEqual(seen, shown(plan, explaining(plan, seen)))
            for at in (0, 1, 14, 29):
                for other in ((-1,) * len(plan[0]), (10 ** 40,) * len(plan[0])):
                    self.not_explained(plan, [*seen[:at], other, *seen[at + 1:]], at)

    def test_long_lists_against_slow_walks(self):
        source = random.Random(84)
        for plan in (P, R, ENDLESS, sixty_states(), *some_plans(85, 10, regions=2)):
            for length in (5, 40, 200):
                # Good letters let a plan go on, so that counts change late, too.
                letters = [source.choice([(0,) * len(plan[1]), (1,) * len(plan[1]), *letters_of(len(plan[1]))]) for _ in range(length)]
                seen = shown_quickly(plan, letters)
                rows = slow_rows(plan, seen)
                self.assertEqual(sum(rows[-1].values()), count_explaining(plan, seen))
                self.assertEqual(sorted(rows[-1]), states_seen(plan, seen))
                least = explaining(plan, seen)
                self.assertLessEqual(least, letters)
                self.assertEqual(seen, shown_quickly(plan, least))

    def test_limits(self):
        plan = big_plan()
        self.assertEqual(93, len(states(plan)))
        first = tuple(counts(plan, begin(plan)))
        with at_once(10):
            for _ in range(5):
                self.assertEqual([(0, 0)] * 200, explaining(plan, [first] * 200))
                self.assertGreater(count_explaining(plan, [first] * 200), 10 ** 150)
                self.assertIsNone(unexplained(plan, [first] * 200))
                # Only the stays that are shorter than the greatest window are left behind.
                self.assertEqual(states_seen(plan, [first] * 3), states_seen(plan, [first] * 200))
                self.assertEqual([(0, 0), first], next_counts(plan, [first] * 200))
                self.assertEqual(199, unexplained(plan, [first] * 199 + [(FORTY, 0)]))


def shown_quickly(plan, letters):
    rows = []
    state = begin(plan)
    for letter in letters:
        state = step(plan, state, letter)
        rows.append(tuple(counts(plan, state)))
    return rows


class NewLists(Case):
    def test_new_lists(self):
        for seen in ([], [(90, 0)], [(90, 0), (900, 5)], [(90, 0)] * 4):
            self.gives_new_lists(explaining, P, seen)
            self.gives_new_lists(states_seen, P, seen)
            self.gives_new_lists(next_counts, P, seen)
        self.gives_new_lists(states_seen, P, [(1, 1)])
        self.gives_new_lists(next_counts, P, [(1, 1)])

    def test_arguments_do_not_change(self):
        for seen in ([], [(90, 0)], [(90, 0), (0, 0), (90, 0)]):
            kept = copy.deepcopy(seen)
            for function in ALL:
                function(P, seen)
            self.assertEqual(kept, seen)


class WrongArguments(Case):
    def test_plan(self):
        for wrong in NOT_PLANS:
            for function in ALL:
                with self.subTest(wrong=wrong, function=function):
                    self.fails(NotAPlan, function, wrong, [])
                    self.fails(NotAPlan, function, wrong, None)

    def test_seen(self):
        rows = (
            *NOT_INTEGERS, (90,), (90, 0, 0), [90, 0], (90, None), (None, 0), (True, 0), (90, False), (90.0, 0), (90, "0"),
            ((90, 0),), "ab", {90: 0, 0: 90}, b"ab",
        )
        wrongs = [value for value in NOT_INTEGERS if value != []] + [((90, 0),), "ab", (90, 0), {(90, 0): 1}]
        wrongs += [[row] for row in rows] + [[(90, 0), row] for row in rows] + [[(-1, BIG), row, (90, 0)] for row in rows]
        for wrong in wrongs:
            for function in ALL:
                with self.subTest(wrong=wrong, function=function):
                    self.fails(InvalidSeen, function, P, wrong)

    def test_as_many_counts_as_regions(self):
        for function in ALL:
            self.fails(InvalidSeen, function, ENDLESS, [(5,), (5, 0)])
            self.fails(InvalidSeen, function, P, [(90, 0), (900,)])
            self.fails(InvalidSeen, function, P, [()])

    def test_first_wrong_argument_tells(self):
        for function in ALL:
            self.fails(NotAPlan, function, seen=None, plan=None)
            self.fails(InvalidSeen, function, seen=None, plan=P)


if __name__ == "__main__":
    unittest.main()
