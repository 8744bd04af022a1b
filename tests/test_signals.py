"""Points [6] and [7]: readings, grades and spans."""

import unittest

from stagedplans.errors import InvalidLeast, InvalidLimit, InvalidReading, InvalidSpan
from stagedplans.signals import grade_of, possible_grades
from tests.helper import BIG, Case, NOT_INTEGERS, at_once

NOT_LIMITS = (*NOT_INTEGERS, -1, 1001, BIG, -BIG)
NOT_LEASTS = (*NOT_INTEGERS, 0, -1, -BIG)
NOT_READINGS = (
    *NOT_INTEGERS, 5, (5,), (5, 1, 0), [5, 1], (5, 6), (0, 1), (-1, -1), (5, -1), (-1, 0),
    (5, True), (True, 0), (True, True), (5, None), (None, 0), (5.0, 1), (5, 1.0), ("5", "1"), "51",
)
NOT_SPANS = (
    *NOT_INTEGERS, 5, (5,), (1, 5, 6), [1, 5], (6, 5), (1, 0), (-1, 5), (-2, -1),
    (0, True), (False, 1), (None, 5), (1, None), (1.0, 5), (1, 5.0), ("1", "5"), "15",
)


def grade_by_words(limit, least, uses, faults):
    if uses < least:
        return 0
    return 2 if faults * 1000 > limit * uses else 1


def grades_by_all(limit, least, uses, faults):
    found = set()
    for many in range(uses[0], uses[1] + 1):
        for bad in range(faults[0], min(faults[1], many) + 1):
            found.add(grade_by_words(limit, least, many, bad))
    return sorted(found)


class GradeOf(Case):
    def test_document(self):
        self.assertEqual([0, 1, 2], [grade_of(20, 50, reading) for reading in ((49, 49), (50, 1), (50, 2))])

    def test_arguments_by_name(self):
        self.assertEqual(2, grade_of(reading=(50, 2), least=50, limit=20))

    def test_all_small_readings(self):
        for limit in (0, 1, 200, 333, 500, 999, 1000):
            for least in (1, 2, 5, 9):
                for uses in range(11):
                    for faults in range(uses + 1):
                        due = grade_by_words(limit, least, uses, faults)
                        self.assertEqual(due, grade_of(limit, least, (uses, faults)))

    def test_fewer_uses_than_least(self):
        self.assertEqual([0, 0, 2], [grade_of(0, 1, (0, 0)), grade_of(0, 2, (1, 1)), grade_of(0, 1, (1, 1))])

    def test_faults_at_and_above_the_limit(self):
        self.assertEqual([1, 2], [grade_of(20, 50, (1000, 20)), grade_of(20, 50, (1000, 21))])
        self.assertEqual([1, 2], [grade_of(0, 1, (1000, 0)), grade_of(0, 1, (1000, 1))])
        self.assertEqual([1, 1], [grade_of(1000, 1, (7, 7)), grade_of(1000, 1, (7, 0))])
        self.assertEqual([1, 2], [grade_of(999, 1, (1000, 999)), grade_of(999, 1, (1000, 1000))])
        self.assertEqual([1, 2], [grade_of(333, 1, (3, 0)), grade_of(333, 1, (3, 1))])

    def test_thirty_digits(self):
        many = 10 ** 29
        self.assertEqual([1, 2], [grade_of(1, 1, (many, many // 1000)), grade_of(1, 1, (many, many // 1000 + 1))])
        self.assertEqual([0, 1], [grade_of(1, many, (many - 1, many - 1)), grade_of(1, many, (many, 0))])
        self.assertEqual([1, 2], [grade_of(1000, BIG, (BIG, BIG)), grade_of(999, BIG, (BIG, BIG))])

    def test_wrong_arguments(self):
        for wrong in NOT_LIMITS:
            with self.subTest(wrong):
                self.fails(InvalidLimit, grade_of, wrong, 50, (50, 1))
        for wrong in NOT_LEASTS:
            with self.subTest(wrong):
                self.fails(InvalidLeast, grade_of, 20, wrong, (50, 1))
        for wrong in NOT_READINGS:
            with self.subTest(wrong):
                self.fails(InvalidReading, grade_of, 20, 50, wrong)

    def test_first_wrong_argument_tells(self):
        self.fails(InvalidLimit, grade_of, -1, 0, (0, 1))
        self.fails(InvalidLeast, grade_of, 20, 0, (0, 1))
        self.fails(InvalidLimit, grade_of, reading=None, least=None, limit=None)


class PossibleGrades(Case):
    def test_document(self):
        self.assertEqual([1, 2], possible_grades(20, 50, (60, 70), (1, 2)))
        self.assertEqual([0], possible_grades(20, 50, (0, 49), (0, 9)))
        self.assertEqual([], possible_grades(20, 50, (0, 5), (6, 9)))

    def test_arguments_by_name(self):
        self.assertEqual([1, 2], possible_grades(faults=(1, 2), uses=(60, 70), least=50, limit=20))

    def test_all_small_spans(self):
        spans = [(low, high) for low in range(7) for high in range(low, 7)]
        for limit in (0, 1, 250, 400, 500, 999, 1000):
            for least in (1, 3, 6, 8):
                for uses in spans:
                    for faults in spans:
                        due = grades_by_all(limit, least, uses, faults)
                        self.assertEqual(due, possible_grades(limit, least, uses, faults))

    def test_at_the_limit_between_two_numbers(self):
        for limit in (499, 500, 501):
            for low in range(8, 14):
                for high in range(low, 14):
                    for few in range(4, 8):
                        for many in range(few, 8):
                            due = grades_by_all(limit, 10, (low, high), (few, many))
                            self.assertEqual(due, possible_grades(limit, 10, (low, high), (few, many)))

    def test_no_reading(self):
        self.assertEqual([], possible_grades(0, 1, (0, 0), (1, 1)))
        self.assertEqual([], possible_grades(0, 9, (3, 5), (6, 6)))
        self.assertEqual([0], possible_grades(0, 9, (3, 5), (5, 6)))

    def test_thirty_digits(self):
        half = 5 * 10 ** 29
        with at_once():
            self.assertEqual([0, 1, 2], possible_grades(500, half, (0, BIG), (0, BIG)))
            self.assertEqual([1, 2], possible_grades(500, 1, (BIG - 1, BIG), (half - 1, half)))
            self.assertEqual([1], possible_grades(500, 1, (BIG - 1, BIG), (0, half - 1)))
            self.assertEqual([2], possible_grades(500, 1, (BIG - 1, BIG), (half, half)))
            self.assertEqual([0, 1], possible_grades(1000, BIG, (0, BIG), (0, BIG)))
            self.assertEqual([0], possible_grades(20, BIG, (0, BIG - 1), (7, BIG)))
            self.assertEqual([], possible_grades(20, 50, (0, BIG - 1), (BIG, BIG)))
            self.assertEqual([2], possible_grades(999, BIG, (0, BIG), (BIG, BIG)))

    def test_new_lists(self):
        self.gives_new_lists(possible_grades, 20, 50, (40, 70), (1, 2))
        self.gives_new_lists(possible_grades, 20, 50, (0, 5), (6, 9))

    def test_wrong_arguments(self):
        for wrong in NOT_LIMITS:
            with self.subTest(wrong):
                self.fails(InvalidLimit, possible_grades, wrong, 50, (0, 9), (0, 9))
        for wrong in NOT_LEASTS:
            with self.subTest(wrong):
                self.fails(InvalidLeast, possible_grades, 20, wrong, (0, 9), (0, 9))
        for wrong in NOT_SPANS:
            with self.subTest(wrong):
                self.fails(InvalidSpan, possible_grades, 20, 50, wrong, (0, 9))
                self.fails(InvalidSpan, possible_grades, 20, 50, (0, 9), wrong)

    def test_first_wrong_argument_tells(self):
        self.fails(InvalidLimit, possible_grades, None, None, None, None)
        self.fails(InvalidLeast, possible_grades, 0, None, None, None)
        self.fails(InvalidLeast, possible_grades, faults=None, uses=None, least=0, limit=0)
        self.fails(InvalidSpan, possible_grades, 0, 1, None, None)


if __name__ == "__main__":
    unittest.main()
