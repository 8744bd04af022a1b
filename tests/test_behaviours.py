"""Point [17]: behaviours."""

import copy
import random
import time
import unittest

from stagedplans.behaviours import impossible_from, is_behaviour, is_possible, nodes_after
from stagedplans.errors import InvalidBehaviour, InvalidLetters, InvalidNumber
from tests.helper import BIG, Case, NOT_INTEGERS
from tests.slow import nodes_of, possible_histories, some_behaviours
from tests.test_states import NOT_LETTERS

# First a good letter, then any letters; bad letters only from node 1 on, and back by a letter of grade 0.
TOLD = (3, ((0, (1, None), 1), (1, (None, None), 1), (1, (2, 2), 2), (2, (0, None), 0), (1, (2, None), 2)))
EDGE = (0, (1, None), 1)
# Values that are no behaviours of two signals; None is in NOT_INTEGERS.
NOT_BEHAVIOURS = tuple(
    value for value in (
        *NOT_INTEGERS, (1,), (1, (), ()), [1, ()], (1, []), (1, {}), (1, None), (0, ()), (-1, ()), (True, ()), ("1", ()),
        (None, ()), (1.0, ()), ((1,), ()), (2, EDGE), (2, [EDGE]), (2, (list(EDGE),)), (2, (EDGE[:2],)), (2, ((*EDGE, 0),)),
        (1, (EDGE,)), (2, (EDGE, None)), (2, (EDGE, EDGE, ())), (2, ((0, (1,), 1),)), (2, ((0, (1, None, None), 1),)),
        (2, ((0, [1, None], 1),)), (2, ((0, None, 1),)), (2, ((0, (3, None), 1),)), (2, ((0, (-1, None), 1),)),
        (2, ((0, (True, None), 1),)), (2, ((0, (1, False), 1),)), (2, ((0, (1, 1.0), 1),)), (2, ((0, (1, "0"), 1),)),
        (2, ((2, (1, None), 1),)), (2, ((-1, (1, None), 1),)), (2, ((0, (1, None), 2),)), (2, ((0, (1, None), -1),)),
        (2, ((False, (1, None), 1),)), (2, ((0, (1, None), True),)), (2, ((None, (1, None), 1),)), (2, ((0, (1, None), "1"),)),
        (2, (EDGE, (0, (1, 3), 1))), (2, (EDGE, EDGE, (0, (1, 1), 2))), "(1, ())", (BIG, ((0, (1, 1), BIG),)),
    )
)
WRONG_BEHAVIOURS = tuple(value for value in NOT_BEHAVIOURS if value is not None)


class IsBehaviour(Case):
    def test_behaviours(self):
        for value in (
            TOLD, (1, ()), (6, ()), (BIG, ()), (2, (EDGE,)), (2, (EDGE, EDGE)), (1, ((0, (None, None), 0),)),
            (1, ((0, (0, 2), 0),)), (BIG, ((BIG - 1, (1, 1), 0), (0, (1, 1), BIG - 1))),
        ):
            with self.subTest(value):
                self.assertIs(True, is_behaviour(2, value))
                self.assertIs(False, is_behaviour(1, value) and len(value[1]) > 0)

    def test_any_other_value(self):
        for value in NOT_BEHAVIOURS:
            with self.subTest(value):
                self.assertIs(False, is_behaviour(2, value))

    def test_none_is_none(self):
        for number in (1, 2, 3, BIG):
            self.assertIs(False, is_behaviour(number, None))

    def test_numbers_of_signals(self):
        for number in range(1, 12):
            for length in range(13):
                value = (1, ((0, (None,) * length, 0),))
                self.assertIs(number == length, is_behaviour(number, value))
        self.assertIs(True, is_behaviour(BIG, (1, ())))
        self.assertIs(False, is_behaviour(BIG, (1, ((0, (None,), 0),))))


class Walks(Case):
    def test_told(self):
        for letters, nodes in (
            ([], [0]), ([(1, 0)], [1]), ([(0, 1)], []), ([(1, 2), (2, 2)], [1, 2]), ([(1, 2), (2, 0)], [1, 2]),
            ([(1, 2), (2, 0), (0, 1)], [0, 1]), ([(1, 2), (2, 0), (0, 1), (1, 1)], [1]), ([(1, 1), (2, 2), (2, 2)], [1, 2]),
            ([(0, 1), (1, 1)], []),
        ):
            with self.subTest(letters):
                self.assertEqual(nodes, nodes_after(2, TOLD, letters))
                self.assertIs(len(nodes) > 0, is_possible(2, TOLD, letters))

    def test_nodes_are_ascending(self):
        told = (4, ((0, (None,), 3), (0, (1,), 1), (0, (None,), 2), (0, (1,), 0), (0, (1,), 1)))
        self.assertEqual([0, 1, 2, 3], nodes_after(1, told, [(1,)]))
        self.assertEqual([2, 3], nodes_after(1, told, [(2,)]))

    def test_none(self):
        for letters in ([], [(0,)], [(2,), (1,), (0,)]):
            self.assertEqual([0], nodes_after(1, None, letters))
            self.assertIs(True, is_possible(1, None, letters))
            self.assertIsNone(impossible_from(1, None, letters))

    def test_no_edges(self):
        for nodes in (1, 5, BIG):
            self.assertEqual([0], nodes_after(2, (nodes, ()), []))
            self.assertIs(True, is_possible(2, (nodes, ()), []))
            self.assertIsNone(impossible_from(2, (nodes, ()), []))
            self.assertEqual([], nodes_after(2, (nodes, ()), [(0, 0)]))
            self.assertIs(False, is_possible(2, (nodes, ()), [(0, 0)]))
            self.assertEqual(1, impossible_from(2, (nodes, ()), [(0, 0), (1, 1)]))

    def test_edges_that_no_walk_reaches(self):
        told = (3, ((1, (None,), 0), (2, (None,), 1), (0, (1,), 0)))
        self.assertEqual([0], nodes_after(1, told, [(1,), (1,)]))
        self.assertEqual([], nodes_after(1, told, [(1,), (2,)]))

    def test_impossible_from(self):
        told = (2, ((0, (1,), 1), (1, (0,), 0), (1, (2,), 0)))
        for letters, due in (
            ([(1,), (0,), (1,)], None), ([(0,)], 1), ([(1,), (1,)], 2), ([(1,), (2,), (1,), (1,), (0,)], 4),
            ([(1,), (2,), (1,), (0,), (0,)], 5),
        ):
            with self.subTest(letters):
                self.assertEqual(due, impossible_from(1, told, letters))

    def test_against_the_slow_walks(self):
        for number, most in ((1, 4), (2, 2)):
            for told in some_behaviours(1, 40, number, nodes=4, edges=10):
                for letters in possible_histories(number, most):
                    nodes = sorted(nodes_of(told, letters))
                    self.assertEqual(nodes, nodes_after(number, told, letters))
                    self.assertIs(nodes != [], is_possible(number, told, letters))
                    lengths = [length for length in range(most + 1) if not nodes_of(told, letters[:length])]
                    due = min(lengths) if nodes == [] else None
                    self.assertEqual(due, impossible_from(number, told, letters))

    def test_many_signals(self):
        told = (2, ((0, (None,) * 19 + (2,), 1), (1, (0,) * 20, 0)))
        self.assertEqual([1], nodes_after(20, told, [(1,) * 19 + (2,)]))
        self.assertEqual([0], nodes_after(20, told, [(1,) * 19 + (2,), (0,) * 20]))
        self.assertEqual(2, impossible_from(20, told, [(1,) * 19 + (2,), (1,) * 20]))

    def test_two_hundred_letters(self):
        letters = [(1, 1)] + [(2, 0)] * 199
        self.assertEqual([1, 2], nodes_after(2, TOLD, letters))
        self.assertEqual(201, impossible_from(2, (1, ((0, (None, 1), 0),)), [(0, 1)] * 200 + [(0, 2)]))

    def test_arguments_by_name(self):
        self.assertIs(True, is_behaviour(value=TOLD, number=2))
        self.assertIs(True, is_possible(letters=[(1, 1)], behaviour=TOLD, number=2))
        self.assertEqual([1], nodes_after(letters=[(1, 1)], behaviour=TOLD, number=2))
        self.assertEqual(1, impossible_from(letters=[(0, 1)], behaviour=TOLD, number=2))

    def test_new_lists_and_arguments_that_do_not_change(self):
        letters = [(1, 2), (2, 0), (0, 1)]
        kept = copy.deepcopy(letters)
        self.gives_new_lists(nodes_after, 2, TOLD, letters)
        self.gives_new_lists(nodes_after, 2, None, letters)
        self.gives_new_lists(nodes_after, 2, TOLD, [])
        self.gives_new_lists(nodes_after, 2, (1, ()), letters)
        self.assertEqual(kept, letters)


def slow_rows(told, letters):
    """Return the lists of nodes behind each beginning, edge by edge and letter by letter."""
    rows = [{0}]
    for letter in letters:
        ends = set()
        for start, partial, end in told[1]:
            if start in rows[-1] and all(known is None or known == grade for known, grade in zip(partial, letter)):
                ends.add(end)
        rows.append(ends)
    return [sorted(row) for row in rows]


def great_behaviour(source, number, nodes=6, edges=30):
    return (nodes, tuple(
        (source.randrange(nodes), tuple(source.choice((None, None, 0, 1, 2)) for _ in range(number)), source.randrange(nodes))
        for _ in range(edges)
    ))


def possible_letters(source, told, number, many):
    """Return some possible history of so many letters, or of fewer where no letter is possible any more."""
    letters, nodes = [], {0}
    while len(letters) < many:
        edges = [(partial, end) for start, partial, end in told[1] if start in nodes]
        if not edges:
            return letters
        partial, _ = source.choice(edges)
        letters.append(tuple(source.randrange(3) if known is None else known for known in partial))
        nodes = {end for known, end in edges if all(one is None or one == grade for one, grade in zip(known, letters[-1]))}
    return letters


class ManyWalks(Case):
    def same(self, number, told, letters):
        rows = slow_rows(told, letters)
        lengths = [length for length, row in enumerate(rows) if not row]
        self.assertEqual(rows[-1], nodes_after(number, told, letters), (told, letters))
        self.assertIs(rows[-1] != [], is_possible(number, told, letters))
        self.assertEqual(lengths[0] if lengths else None, impossible_from(number, told, letters))
        return rows[-1] != []

    def test_against_plain_walks(self):
        source = random.Random(160)
        found = {True: 0, False: 0}
        for at in range(1200):
            number, nodes = source.randint(1, 3), source.randint(1, 6)
            told = great_behaviour(source, number, nodes, source.randint(0, 30))
            many = source.choice((0, 1, 2, 3, 4, 5, 6, 7, 8, 10, 12, 20, 40))
            letters = possible_letters(source, told, number, many)
            found[self.same(number, told, letters)] += 1
            other = [tuple(source.randrange(3) for _ in range(number)) for _ in range(many)]
            found[self.same(number, told, other)] += 1
        self.assertGreater(min(found.values()), 400)

    def test_impossible_letter_at_any_place(self):
        source = random.Random(161)
        for number in (1, 2, 3):
            for many in (1, 2, 5, 6, 7, 11, 200):
                # No edge takes a bad first signal.
                told = great_behaviour(source, number)
                told = (6, tuple((start, (source.choice((0, 1)), *partial[1:]), end) for start, partial, end in told[1]))
                letters = possible_letters(source, told, number, many)
                for at in {0, len(letters) // 2, len(letters) - 1} if letters else ():
                    wrong = [*letters[:at], (2, *letters[at][1:]), *letters[at + 1:]]
                    self.same(number, told, wrong)
                    self.assertEqual(at + 1, impossible_from(number, told, wrong))
                    self.assertEqual([], nodes_after(number, told, wrong))

    def test_two_hundred_letters_against_plain_walks(self):
        source = random.Random(162)
        found = {True: 0, False: 0}
        for number in (1, 2, 3):
            for nodes in range(1, 7):
                for edges in (3, 10, 29, 30):
                    told = great_behaviour(source, number, nodes, edges)
                    letters = possible_letters(source, told, number, 200)
                    found[self.same(number, told, letters)] += len(letters) == 200
                    found[self.same(number, told, letters + [(2,) * number])] += 1
        self.assertGreater(found[True], 30)

    def test_all_numbers_of_letters(self):
        # One walk goes round and round, and others leave it at each node; nodes are far from each other.
        told = (BIG, ((0, (None, 1), BIG - 1), (BIG - 1, (1, None), 7), (7, (None, None), 0), (7, (2, 2), 7), (0, (None, 1), 7)))
        letters = [(1, 1), (1, 2), (2, 2), (2, 1)] * 6
        for many in range(len(letters) + 1):
            self.same(2, told, letters[:many])
            for start in range(4):
                self.same(2, told, letters[start:many])

    def test_edges_told_twice(self):
        edge = (0, (1, None), 0)
        for many in (1, 3, 30):
            told = (3, (edge,) * many + ((0, (None, 1), 2), (0, (1, 1), 1)) * many)
            for length in (0, 1, 2, 6, 9):
                self.same(2, told, [(1, 1)] * length)
                self.same(2, told, [(1, 1)] * length + [(1, 0)])

    def test_thousands_of_questions(self):
        source = random.Random(163)
        questions = []
        while len(questions) < 2000:
            told = great_behaviour(source, 3)
            letters = possible_letters(source, told, 3, 10)
            if len(letters) == 10:
                questions.append((told, letters))
        began = time.process_time()
        for told, letters in questions:
            is_possible(3, told, letters)
            nodes_after(3, told, letters)
            impossible_from(3, told, letters)
        # Some 0.25 seconds where this was written.
        self.assertLess(time.process_time() - began, 1.2)


class WrongArguments(Case):
    def test_number(self):
        for wrong in (*NOT_INTEGERS, 0, -1, -BIG):
            with self.subTest(wrong):
                self.fails(InvalidNumber, is_behaviour, wrong, (1, ()))
                self.fails(InvalidNumber, is_possible, wrong, None, [])
                self.fails(InvalidNumber, nodes_after, wrong, None, [])
                self.fails(InvalidNumber, impossible_from, wrong, None, [])

    def test_behaviour(self):
        for wrong in WRONG_BEHAVIOURS:
            with self.subTest(wrong):
                self.fails(InvalidBehaviour, is_possible, 2, wrong, [])
                self.fails(InvalidBehaviour, nodes_after, 2, wrong, [])
                self.fails(InvalidBehaviour, impossible_from, 2, wrong, [])
        self.fails(InvalidBehaviour, is_possible, 1, TOLD, [])

    def test_letters(self):
        wrongs = [value for value in NOT_INTEGERS if value != []] + [((1, 1),), "11", (1, 1)]
        wrongs += [[wrong] for wrong in NOT_LETTERS] + [[(1, 1), wrong, (1, 1)] for wrong in NOT_LETTERS]
        for wrong in wrongs:
            for told in (TOLD, None, (1, ())):
                with self.subTest(wrong=wrong, told=told):
                    self.fails(InvalidLetters, is_possible, 2, told, wrong)
                    self.fails(InvalidLetters, nodes_after, 2, told, wrong)
                    self.fails(InvalidLetters, impossible_from, 2, told, wrong)
        # Also behind the beginning that is not possible.
        self.fails(InvalidLetters, impossible_from, 2, (1, ()), [(0, 0), (0, 0), (0, 3)])

    def test_first_wrong_argument_tells(self):
        self.fails(InvalidNumber, is_behaviour, None, None)
        for function in (is_possible, nodes_after, impossible_from):
            self.fails(InvalidNumber, function, None, (), None)
            self.fails(InvalidBehaviour, function, 1, (), None)
            self.fails(InvalidBehaviour, function, letters=None, behaviour=(), number=1)


if __name__ == "__main__":
    unittest.main()
