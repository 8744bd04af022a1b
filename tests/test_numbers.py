"""Point [26]: histories counted and numbered."""

import copy
import random
import unittest

from stagedplans.errors import InvalidIndex, InvalidLetters, InvalidNumber, InvalidWord, NoHistory, NotAPlan
from stagedplans.numbers import count_histories, histories, history_index, nth_history
from stagedplans.states import begin, state_after, states, step
from tests.helper import BIG, Case, NOT_INTEGERS, NOT_PLANS, P, R, at_once, histories_of, letters_of, model_after, some_plans
from tests.test_states import NOT_LETTERS, one_signal
from tests.test_unknown import NOT_WORDS, WORDS
from tests.test_worst import ENDLESS, big_plan

HUGE = 10 ** 100 - 1


def slow_count(plan, periods, word):
    """Return the number of histories, by how many of them lead to each state."""
    numbers = {begin(plan): 1}
    for _ in range(periods):
        behind = {}
        for state, number in numbers.items():
            for letter in letters_of(len(plan[1])):
                end = step(plan, state, letter)
                behind[end] = behind.get(end, 0) + number
        numbers = behind
    return sum(number for state, number in numbers.items() if state[0] == word)


def sixty_states():
    """A plan with two signals and 50 to 60 states."""
    guards = (((0, 2, 3, 3), ("stop",)), ((1, 2, 2, 2), ("back", 0)))
    plan = (((10, 3, 4, 2),), ((0, 20, 5, 1), (0, 20, 5, 2)), (((500,), 2, ((0, 1, 2, 2),), guards[1:]), ((900,), 3, (), guards[1:])), 1)
    assert 30 <= len(states(plan)) <= 60, len(states(plan))
    return plan


class Examples(Case):
    def test_document(self):
        self.assertEqual([3, 17, 7], [count_histories(P, 3, "done"), count_histories(P, 3, "open"), count_histories(P, 3, "stopped")])
        self.assertEqual([(2,), (2,), (0,)], nth_history(P, 3, "stopped", 4))
        self.assertEqual(2, history_index(P, "done", [(1,), (1,), (2,)]))

    def test_arguments_by_name(self):
        self.assertEqual(3, count_histories(word="done", periods=3, plan=P))
        self.assertEqual([(2,), (2,), (0,)], nth_history(index=4, word="stopped", periods=3, plan=P))
        self.assertEqual(2, history_index(letters=[(1,), (1,), (2,)], word="done", plan=P))
        self.assertEqual(3, len(list(histories(word="done", periods=3, plan=P))))


class Counting(Case):
    def test_no_periods(self):
        for plan in (P, R, ENDLESS, big_plan()):
            self.assertEqual([1, 0, 0], [count_histories(plan, 0, word) for word in WORDS])
            self.assertEqual([[[]], [], []], [list(histories(plan, 0, word)) for word in WORDS])
            self.assertEqual([], nth_history(plan, 0, "open", 0))
            self.assertEqual(0, history_index(plan, "open", []))
            for word in ("done", "stopped"):
                self.fails(NoHistory, history_index, plan, word, [])
                self.fails(InvalidIndex, nth_history, plan, 0, word, 0)

    def test_words_that_no_history_leads_to(self):
        self.assertEqual([0, 0, 0], [count_histories(ENDLESS, periods, "stopped") for periods in (1, 7, 60)])
        self.assertEqual([0, 0, 3], [count_histories(P, periods, "done") for periods in (1, 2, 3)])
        self.assertEqual([], list(histories(ENDLESS, 5, "stopped")))
        self.fails(InvalidIndex, nth_history, ENDLESS, 5, "stopped", 0)
        # All histories of three periods are done, so none of them is open any more.
        plan = one_signal(((500,), 3, (), ()))
        self.assertEqual([[9, 0, 0], [0, 27, 0], [0, 81, 0]], [[count_histories(plan, k, word) for word in WORDS] for k in (2, 3, 4)])

    def test_against_all_short_histories(self):
        found = {word: 0 for word in WORDS}
        for plan in some_plans(70, 40, regions=2, signals=1) + some_plans(71, 25, regions=2):
            for periods in range(6 if len(plan[1]) == 1 else 4):
                rows = [(model_after(plan, letters).word, letters) for letters in histories_of(len(plan[1]), periods)]
                for word in WORDS:
                    due = [letters for other, letters in rows if other == word]
                    found[word] += len(due)
                    self.assertEqual(len(due), count_histories(plan, periods, word))
                    self.assertEqual(due, list(histories(plan, periods, word)))
                    for index in {0, len(due) // 2, len(due) - 1, len(due) // 3} if due else ():
                        self.assertEqual(due[index], nth_history(plan, periods, word, index))
                        self.assertEqual(index, history_index(plan, word, due[index]))
                    self.fails(InvalidIndex, nth_history, plan, periods, word, len(due))
        self.assertGreater(min(found.values()), 1000)

    def test_every_index(self):
        for plan, periods in ((P, 5), (R, 3), (ENDLESS, 5)):
            for word in WORDS:
                rows = list(histories(plan, periods, word))
                self.assertEqual(rows, sorted(rows))
                self.assertEqual(rows, [nth_history(plan, periods, word, index) for index in range(len(rows))])
                self.assertEqual(list(range(len(rows))), [history_index(plan, word, letters) for letters in rows])
                self.assertEqual(len(rows), len({tuple(letters) for letters in rows}))

    def test_sixty_periods(self):
        for plan in (P, R, ENDLESS, sixty_states()):
            numbers = [count_histories(plan, 60, word) for word in WORDS]
            self.assertEqual([slow_count(plan, 60, word) for word in WORDS], numbers)
            self.assertEqual(3 ** (60 * len(plan[1])), sum(numbers))

    def test_sixty_periods_numbered(self):
        source = random.Random(72)
        for plan in (P, R, ENDLESS, sixty_states()):
            for word in WORDS:
                many = count_histories(plan, 60, word)
                if many == 0:
                    continue
                indexes = sorted({0, many - 1, many // 2, *[source.randrange(many) for _ in range(6)]})
                rows = [nth_history(plan, 60, word, index) for index in indexes]
                self.assertEqual(rows, sorted(rows))
                for index, letters in zip(indexes, rows):
                    self.assertEqual(60, len(letters))
                    self.assertEqual(word, state_after(plan, letters)[0])
                    self.assertEqual(index, history_index(plan, word, letters))
                self.fails(InvalidIndex, nth_history, plan, 60, word, many)
                self.fails(InvalidIndex, nth_history, plan, 60, word, HUGE)

    def test_one_behind_the_other(self):
        plan = sixty_states()
        for word in WORDS:
            many = count_histories(plan, 60, word)
            for index in (0, many // 7, many - 6):
                rows = [nth_history(plan, 60, word, index + more) for more in range(6)]
                self.assertEqual(rows, sorted(rows))
                self.assertEqual(6, len({tuple(letters) for letters in rows}))
                self.assertEqual(list(range(index, index + 6)), [history_index(plan, word, letters) for letters in rows])

    def test_histories_are_lazy(self):
        with at_once(10):
            for letters in histories(ENDLESS, 60, "open"):
                self.assertEqual([(0,)] * 60, letters)
                break
            rows = []
            for letters in histories(sixty_states(), 60, "stopped"):
                rows.append(letters)
                if len(rows) == 5:
                    break
        self.assertEqual([nth_history(sixty_states(), 60, "stopped", index) for index in range(5)], rows)

    def test_limits(self):
        plan = sixty_states()
        with at_once(10):
            for _ in range(10):
                for word in WORDS:
                    many = count_histories(plan, 60, word)
                    letters = nth_history(plan, 60, word, many - 1)
                    self.assertEqual(many - 1, history_index(plan, word, letters))
            self.assertEqual(2 ** 200, count_histories(ENDLESS, 200, "open"))
            self.assertEqual(3 ** 200 - 2 ** 200, count_histories(ENDLESS, 200, "done"))
            self.assertEqual(0, history_index(ENDLESS, "open", [(0,)] * 200))
            self.assertEqual(2 ** 200 - 1, history_index(ENDLESS, "open", [(2,)] * 200))


class NewLists(Case):
    def test_new_lists(self):
        for word, many in (("done", 3), ("open", 17), ("stopped", 7)):
            for index in range(many):
                self.gives_new_lists(nth_history, P, 3, word, index)
        self.gives_new_lists(nth_history, P, 0, "open", 0)

    def test_lists_of_the_generator(self):
        due = list(histories(P, 3, "open"))
        self.assertEqual(17, len({id(letters) for letters in due}))
        found = []
        for letters in histories(P, 3, "open"):
            found.append(list(letters))
            letters.reverse()
            letters.append("more")
        self.assertEqual(due, found)

    def test_two_at_once(self):
        rows = list(zip(histories(P, 3, "open"), histories(P, 3, "stopped")))
        self.assertEqual(list(zip(list(histories(P, 3, "open")), list(histories(P, 3, "stopped")))), rows)

    def test_arguments_do_not_change(self):
        letters = [(1,), (1,), (2,)]
        kept = copy.deepcopy(letters)
        history_index(P, "done", letters)
        self.fails(NoHistory, history_index, P, "open", letters)
        self.assertEqual(kept, letters)


class WrongArguments(Case):
    def first(self, *args, **more):
        """Ask for the first history; the error comes with the call or with this."""
        return next(histories(*args, **more), None)

    def test_plan(self):
        for wrong in NOT_PLANS:
            with self.subTest(wrong):
                self.fails(NotAPlan, count_histories, wrong, 0, "open")
                self.fails(NotAPlan, nth_history, wrong, 0, "open", 0)
                self.fails(NotAPlan, history_index, wrong, "open", [])
                self.fails(NotAPlan, self.first, wrong, 0, "open")

    def test_periods(self):
        for wrong in (*NOT_INTEGERS, -1, -BIG):
            with self.subTest(wrong):
                self.fails(InvalidNumber, count_histories, R, wrong, "open")
                self.fails(InvalidNumber, nth_history, R, wrong, "open", 0)
                self.fails(InvalidNumber, self.first, R, wrong, "open")

    def test_word(self):
        for wrong in NOT_WORDS:
            with self.subTest(wrong):
                self.fails(InvalidWord, count_histories, R, 1, wrong)
                self.fails(InvalidWord, nth_history, R, 1, wrong, 0)
                self.fails(InvalidWord, history_index, R, wrong, [])
                self.fails(InvalidWord, self.first, R, 1, wrong)

    def test_index(self):
        for wrong in (*NOT_INTEGERS, -1, 3, -3, 4, BIG, HUGE, -HUGE):
            with self.subTest(wrong):
                self.fails(InvalidIndex, nth_history, P, 3, "done", wrong)

    def test_letters(self):
        wrongs = [value for value in NOT_INTEGERS if value != []] + [((1, 1),), "11", (1, 1)]
        wrongs += [[wrong] for wrong in NOT_LETTERS] + [[(1, 1), wrong, (1, 1)] for wrong in NOT_LETTERS]
        wrongs += [[(1, 1), (1, 1), wrong] for wrong in NOT_LETTERS]
        for wrong in wrongs:
            for word in WORDS:
                with self.subTest(wrong=wrong, word=word):
                    self.fails(InvalidLetters, history_index, R, word, wrong)

    def test_no_history(self):
        for letters, word in (([], "open"), ([(1,)], "open"), ([(2,), (2,)], "stopped"), ([(1,), (1,), (0,), (2,)], "done")):
            self.assertIsInstance(history_index(P, word, letters), int)
            for other in WORDS:
                if other != word:
                    self.fails(NoHistory, history_index, P, other, letters)

    def test_first_wrong_argument_tells(self):
        self.fails(NotAPlan, count_histories, None, None, None)
        self.fails(InvalidNumber, count_histories, P, None, None)
        self.fails(InvalidWord, count_histories, P, 0, None)
        self.fails(NotAPlan, nth_history, None, None, None, None)
        self.fails(InvalidNumber, nth_history, P, -1, None, None)
        self.fails(InvalidWord, nth_history, P, 1, None, None)
        self.fails(InvalidIndex, nth_history, index=None, word="open", periods=1, plan=P)
        self.fails(NotAPlan, history_index, None, None, None)
        self.fails(InvalidWord, history_index, P, None, None)
        self.fails(InvalidLetters, history_index, P, "done", [(1,), (3,)])
        self.fails(InvalidLetters, history_index, P, "done", [(1, 1)])
        self.fails(NoHistory, history_index, P, "done", [(1,)])
        self.fails(NotAPlan, self.first, None, None, None)
        self.fails(InvalidNumber, self.first, P, None, None)
        self.fails(InvalidWord, self.first, word=None, periods=0, plan=P)


if __name__ == "__main__":
    unittest.main()
