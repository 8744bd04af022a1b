"""Point [22]: fewest and most periods."""

import unittest

from stagedplans.behaviours import is_possible
from stagedplans.errors import InvalidBehaviour, InvalidNumber, InvalidWord, NotAPlan
from stagedplans.states import begin, state_after, states, step
from stagedplans.times import fastest, slowest, slowest_history, words_after
from tests.helper import BIG, Case, NOT_INTEGERS, NOT_PLANS, P, R, at_once, letters_of
from tests.slow import all_keys, possible_histories, targets_of
from tests.test_behaviours import WRONG_BEHAVIOURS
from tests.test_states import one_signal, two_regions
from tests.test_unknown import NOT_WORDS, WORDS
from tests.test_worst import ENDLESS, GOOD_ONLY, STOP, big_behaviour, big_plan, small_cases


def open_periods(plan, letters):
    """Tell whether all periods of a history begin in open states."""
    return all(state_after(plan, letters[:at])[0] == "open" for at in range(len(letters)))


def slow_slowest(plan, behaviour):
    """Return the most periods that begin in open states, or None, by longer and longer walks."""
    keys = all_keys((plan,), behaviour)
    here = {(begin(plan), 0)}
    for periods in range(len(keys) + 1):
        here = {key for key in here if key[0][0] == "open"}
        behind = {end for key in here for end, _, _ in keys[key]}
        if not behind:
            return periods
        here = behind
    return None


def slow_words(plan, periods, behaviour):
    here = {(begin(plan), 0)}
    for _ in range(periods):
        here = {
            (step(plan, state, letter), end)
            for state, node in here
            for letter in letters_of(len(plan[1]))
            for end in targets_of(behaviour, node, letter)
        }
    return sorted({state[0] for state, _ in here})


class Examples(Case):
    def test_document(self):
        self.assertEqual([(1,), (1,), (0,)], fastest(P, "done"))
        self.assertEqual([(2,), (2,)], fastest(P, "stopped"))
        self.assertIsNone(slowest(P))
        self.assertEqual(3, slowest(P, GOOD_ONLY))
        self.assertEqual([(1,)] * 3, slowest_history(P, GOOD_ONLY))

    def test_arguments_by_name(self):
        self.assertIsNone(fastest(behaviour=GOOD_ONLY, word="stopped", plan=P))
        self.assertEqual(3, slowest(behaviour=GOOD_ONLY, plan=P))
        self.assertEqual([(1,)] * 3, slowest_history(behaviour=GOOD_ONLY, plan=P))
        self.assertEqual(["done"], words_after(behaviour=GOOD_ONLY, periods=3, plan=P))
        self.assertEqual(["done", "open", "stopped"], words_after(periods=3, plan=P))

    def test_none_is_the_behaviour_that_is_left_out(self):
        for plan in (P, R):
            self.assertEqual(fastest(plan, "done"), fastest(plan, "done", None))
            self.assertEqual(slowest(plan), slowest(plan, None))
            self.assertEqual(slowest_history(plan), slowest_history(plan, None))
            self.assertEqual(words_after(plan, 3), words_after(plan, 3, None))


class Fastest(Case):
    def test_empty_history(self):
        for plan in (P, R, ENDLESS, big_plan()):
            for told in (None, (1, ()), (BIG, ())):
                self.assertEqual([], fastest(plan, "open", told))

    def test_words_that_no_possible_history_leads_to(self):
        self.assertIsNone(fastest(ENDLESS, "stopped"))
        self.assertIsNone(fastest(P, "stopped", GOOD_ONLY))
        self.assertIsNone(fastest(P, "done", (1, ())))
        self.assertIsNone(fastest(P, "done", (2, ((1, (None,), 1), (0, (0,), 0)))))
        self.assertIsNone(fastest(P, "done", (3, ((0, (1,), 1), (1, (1,), 2)))))

    def test_least_of_the_shortest(self):
        plan = two_regions(((500, 500), 2, ((0, 1, 1, 2), (1, 1, 1, 2)), ()))
        self.assertEqual([(0, 0), (1, 1)], fastest(plan, "done"))
        told = (2, ((0, (1, None), 1), (1, (None, 1), 0), (0, (2, 1), 1), (1, (1, None), 0)))
        self.assertEqual([(1, 0), (0, 1)], fastest(plan, "done", told))

    def test_walks_that_share_a_history(self):
        # Both walks read good letters first; the one behind node 2 may read a lesser letter next.
        plan = one_signal(((500,), 3, ((0, 0, 1, 1),), ()))
        told = (4, ((0, (1,), 1), (0, (1,), 2), (1, (2,), 3), (2, (1,), 3), (3, (0,), 3)))
        self.assertEqual([(1,), (1,), (0,)], fastest(plan, "done", told))
        told = (5, ((0, (1,), 2), (0, (1,), 1), (1, (2,), 3), (2, (1,), 4), (3, (0,), 3), (4, (2,), 3)))
        self.assertEqual([(1,), (2,), (0,)], fastest(plan, "done", told))

    def test_against_all_short_histories(self):
        found = {True: 0, False: 0}
        for plan, told in small_cases(60, 50) + small_cases(61, 20, signals=2):
            most = 5 if len(plan[1]) == 1 else 2
            firsts = {}
            for letters in possible_histories(len(plan[1]), most, told):
                firsts.setdefault(state_after(plan, letters)[0], letters)
            reached = {key[0][0] for key in all_keys((plan,), told)}
            for word in WORDS:
                letters = fastest(plan, word, told)
                found[word in firsts] += 1
                with self.subTest(plan=plan, told=told, word=word):
                    self.assertIs(word in reached, letters is not None)
                    if word in firsts:
                        self.assertEqual(firsts[word], letters)
                    elif letters is not None:
                        self.assertGreater(len(letters), most)
                        self.assertEqual(word, state_after(plan, letters)[0])
                        self.assertIs(True, is_possible(len(plan[1]), told, letters))
        self.assertGreater(min(found.values()), 100)


class Slowest(Case):
    def test_no_greatest_number(self):
        for plan, told in ((P, None), (R, None), (ENDLESS, None), (P, (2, ((0, (1,), 1), (1, (0,), 0))))):
            self.assertIsNone(slowest(plan, told))
            self.assertIsNone(slowest_history(plan, told))

    def test_plans_with_a_greatest_number(self):
        plan = one_signal(((500,), 3, (), ()), ((1000,), 2, (), ()))
        self.assertEqual(5, slowest(plan))
        self.assertEqual([(0,)] * 5, slowest_history(plan))
        plan = one_signal(((500,), 2, (), (((0, 2, 1, 1), ("back", 0)),)), tries=2)
        self.assertEqual(6, slowest(plan))
        self.assertEqual([(0,), (2,), (0,), (2,), (0,), (0,)], slowest_history(plan))
        plan = one_signal(((500,), 3, (), STOP))
        self.assertEqual([(0,)] * 3, slowest_history(plan))

    def test_behaviours_with_a_greatest_number(self):
        told = (3, ((0, (2,), 1), (1, (None,), 2), (0, (1,), 1)))
        self.assertEqual(2, slowest(ENDLESS, told))
        self.assertEqual([(2,), (0,)], slowest_history(ENDLESS, told))
        for none in ((1, ()), (BIG, ())):
            self.assertEqual(0, slowest(ENDLESS, none))
            self.assertEqual([], slowest_history(ENDLESS, none))

    def test_last_period_ends_the_plan(self):
        # A behaviour that goes on for ever does not count behind the end of the plan.
        plan = one_signal(((500,), 1, (), ()))
        self.assertEqual(1, slowest(plan, (1, ((0, (2,), 0),))))
        self.assertEqual([(2,)], slowest_history(plan, (1, ((0, (2,), 0),))))
        self.assertEqual(2, slowest(P, (2, ((0, (2,), 1), (1, (2,), 0)))))

    def test_walks_that_share_a_history(self):
        told = (4, ((0, (1,), 1), (0, (1,), 2), (1, (0,), 3), (2, (2,), 3), (3, (2,), 0)))
        plan = one_signal(((500,), 4, (), ()))
        self.assertEqual([(1,), (0,), (2,), (1,)], slowest_history(plan, told))
        told = (4, ((0, (1,), 1), (0, (1,), 2), (1, (2,), 3), (2, (0,), 3), (3, (2,), 0)))
        self.assertEqual([(1,), (0,), (2,), (1,)], slowest_history(plan, told))
        told = (4, ((0, (0,), 1), (0, (1,), 2), (0, (0,), 3), (2, (2,), 3), (3, (2,), 1)))
        self.assertEqual([(1,), (2,), (2,)], slowest_history(plan, told))

    def test_against_all_short_histories(self):
        found = {True: 0, False: 0}
        for plan, told in small_cases(62, 70) + small_cases(63, 30, signals=2):
            most = 5 if len(plan[1]) == 1 else 2
            due = slow_slowest(plan, told)
            found[due is None] += 1
            with self.subTest(plan=plan, told=told):
                self.assertEqual(due, slowest(plan, told))
                letters = slowest_history(plan, told)
                if due is None:
                    self.assertIsNone(letters)
                    continue
                self.assertEqual(due, len(letters))
                self.assertIs(True, open_periods(plan, letters))
                self.assertIs(True, is_possible(len(plan[1]), told, letters))
                if due <= most:
                    histories = possible_histories(len(plan[1]), due, told)
                    fitting = [one for one in histories if len(one) == due and open_periods(plan, one)]
                    self.assertEqual(fitting[0], letters)
        self.assertGreater(min(found.values()), 40)


class WordsAfter(Case):
    def test_periods(self):
        for periods, due in ((0, ["open"]), (1, ["open"]), (2, ["open", "stopped"]), (3, ["done", "open", "stopped"])):
            self.assertEqual(due, words_after(P, periods))
        for periods, due in ((0, ["open"]), (2, ["open"]), (3, ["done"]), (4, ["done"]), (200, ["done"])):
            self.assertEqual(due, words_after(P, periods, GOOD_ONLY))

    def test_longest_histories(self):
        told = (3, ((0, (1,), 1), (1, (1,), 2)))
        self.assertEqual([["open"], ["open"], ["open"], [], []], [words_after(P, periods, told) for periods in (0, 1, 2, 3, 200)])
        self.assertEqual([["open"], [], []], [words_after(P, periods, (1, ())) for periods in (0, 1, 200)])

    def test_words_that_come_and_go(self):
        # A ring of three periods, at each turn of which the plan may be done one period later.
        plan = one_signal(((500,), 1, ((0, 1, 1, 1),), ()))
        told = (4, ((0, (0,), 1), (1, (0,), 2), (2, (0,), 0), (0, (1,), 3)))
        for periods in (*range(12), 197, 198, 199, 200):
            due = ["done", "open"] if periods % 3 == 1 else ["open"]
            self.assertEqual(due, words_after(plan, periods, told))

    def test_against_slow_walks(self):
        for plan, told in small_cases(64, 40) + small_cases(65, 12, signals=2):
            for periods in (0, 1, 2, 3, 5, 8, 30):
                self.assertEqual(slow_words(plan, periods, told), words_after(plan, periods, told))

    def test_limits(self):
        plan = big_plan()
        with at_once(20):
            for told in (None, big_behaviour(1), big_behaviour(2), big_behaviour(3)):
                self.assertLessEqual(len(states(plan)), 100)
                for periods in (60, 199, 200):
                    self.assertEqual(["done", "open", "stopped"], words_after(plan, periods, told))
                for word in WORDS:
                    self.assertEqual(word, state_after(plan, fastest(plan, word, told))[0])
                self.assertIsNone(slowest(plan, told))
                self.assertIsNone(slowest_history(plan, told))

    def test_new_lists(self):
        for word in WORDS:
            self.gives_new_lists(fastest, P, word)
        self.gives_new_lists(fastest, P, "open", GOOD_ONLY)
        self.gives_new_lists(slowest_history, P, GOOD_ONLY)
        self.gives_new_lists(slowest_history, P, (1, ()))
        for periods in (0, 3, 200):
            self.gives_new_lists(words_after, P, periods)
            self.gives_new_lists(words_after, P, periods, (1, ()))


class WrongArguments(Case):
    def test_plan(self):
        for wrong in NOT_PLANS:
            with self.subTest(wrong):
                self.fails(NotAPlan, fastest, wrong, "open")
                self.fails(NotAPlan, slowest, wrong)
                self.fails(NotAPlan, slowest_history, wrong)
                self.fails(NotAPlan, words_after, wrong, 0)

    def test_word(self):
        for wrong in NOT_WORDS:
            with self.subTest(wrong):
                self.fails(InvalidWord, fastest, R, wrong)

    def test_periods(self):
        for wrong in (*NOT_INTEGERS, -1, -BIG):
            with self.subTest(wrong):
                self.fails(InvalidNumber, words_after, R, wrong)
                self.fails(InvalidNumber, words_after, R, wrong, (1, ()))

    def test_behaviour(self):
        for wrong in WRONG_BEHAVIOURS:
            with self.subTest(wrong):
                self.fails(InvalidBehaviour, fastest, R, "open", wrong)
                self.fails(InvalidBehaviour, slowest, R, wrong)
                self.fails(InvalidBehaviour, slowest_history, R, wrong)
                self.fails(InvalidBehaviour, words_after, R, 0, wrong)

    def test_first_wrong_argument_tells(self):
        self.fails(NotAPlan, fastest, None, None, ())
        self.fails(InvalidWord, fastest, P, None, ())
        self.fails(InvalidWord, fastest, behaviour=(), word=None, plan=P)
        self.fails(NotAPlan, slowest, None, ())
        self.fails(NotAPlan, slowest_history, None, ())
        self.fails(NotAPlan, words_after, None, None, ())
        self.fails(InvalidNumber, words_after, P, None, ())
        self.fails(InvalidBehaviour, words_after, P, 0, ())


if __name__ == "__main__":
    unittest.main()
