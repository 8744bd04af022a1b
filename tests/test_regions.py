"""Points [1] to [5]: regions and their users."""

import math
import random
import unittest

from stagedplans.errors import InvalidIndex, InvalidRank, InvalidRegion, InvalidShare, InvalidUser
from stagedplans.regions import count_open, is_open, is_region, least_share, nth_open
from stagedplans.regions import open_count, rank_of, user_of
from tests.helper import BIG, Case, NOT_INTEGERS, at_once

EXAMPLE = (10, 3, 4, 2)
SOME = (
    (1, 1, 0, 0), (1, 1, 0, 1), (2, 1, 1, 0), (3, 2, 2, 1), (10, 3, 4, 2), (10, 9, 9, 0),
    (12, 7, 5, 12), (13, 12, 1, 3), (17, 5, 0, 16), (16, 11, 3, 4),
)
SHARES = (0, 1, 62, 63, 99, 100, 125, 333, 499, 500, 501, 900, 999, 1000)
# Regions of 30 digits; the first has the greatest factor, the second no held user, the third all.
GREAT = (
    (BIG, BIG - 1, BIG - 1, 12345),
    (10 ** 29 + 1, 3 ** 60, 17, 0),
    (BIG, 10 ** 29 + 7, 10 ** 15, BIG),
    (2 ** 99, 5 ** 42, 2 ** 98 + 1, 2 ** 97),
    (BIG, 1, 0, 10 ** 29),
)
NOT_REGIONS = (
    *NOT_INTEGERS, 10, (10, 3, 4), (10, 3, 4, 2, 0), [10, 3, 4, 2], "1111", ((10, 3, 4, 2),),
    (0, 1, 0, 0), (0, 0, 0, 0), (-1, 1, 0, 0), (10, 0, 4, 2), (10, -3, 4, 2), (10, 11, 4, 2), (10, 13, 4, 2),
    (10, 2, 4, 2), (10, 5, 4, 2), (10, 10, 4, 2), (2, 2, 0, 0), (15, 6, 4, 2),
    (10, 3, -1, 2), (10, 3, 10, 2), (1, 1, 1, 0), (10, 3, 4, -1), (10, 3, 4, 11), (1, 1, 0, 2),
)


def ranks(region):
    size, factor, shift, _ = region
    return [(factor * user + shift) % size for user in range(size)]


def count_of(region, share):
    return (region[0] - region[3]) * share // 1000


def users_open(region, share):
    return [user for user, rank in enumerate(ranks(region)) if rank < count_of(region, share)]


def some_region(source, most):
    """Return a region of at most so many users, also with a factor near 0 or near the size."""
    size = source.randint(most // 10, most - 1)
    near = source.randint(1, min(size, 40))
    factor = source.choice((source.randint(1, size), source.randint(1, size), near, size + 1 - near))
    while math.gcd(factor, size) != 1:
        factor = factor - 1
    return (size, factor, source.randrange(size), source.choice((0, 0, size // 7, source.randint(0, size))))


class Examples(Case):
    def test_document(self):
        r = EXAMPLE
        self.assertEqual([4, 7, 0, 5], [rank_of(r, user) for user in (0, 1, 2, 7)])
        self.assertEqual([4, 750, None], [open_count(r, 500), least_share(r, 7), least_share(r, 8)])
        self.assertEqual([2, 3, 6, 9], [nth_open(r, 500, index) for index in range(4)])
        self.assertEqual(2, count_open(r, 500, 3, 8))

    def test_arguments_by_name(self):
        r = EXAMPLE
        self.assertIs(True, is_region(value=r))
        self.assertEqual(5, rank_of(user=7, region=r))
        self.assertEqual(7, user_of(rank=5, region=r))
        self.assertEqual(4, open_count(share=500, region=r))
        self.assertIs(True, is_open(user=2, share=500, region=r))
        self.assertEqual(750, least_share(user=7, region=r))
        self.assertEqual(2, count_open(last=8, first=3, share=500, region=r))
        self.assertEqual(9, nth_open(index=3, share=500, region=r))


class IsRegion(Case):
    def test_regions(self):
        for region in SOME + GREAT:
            with self.subTest(region):
                self.assertIs(True, is_region(region))

    def test_all_small_tuples(self):
        for size in range(-1, 7):
            for factor in range(-2, 9):
                common = size > 0 and 1 <= factor <= size and math.gcd(size, factor) == 1
                for shift in range(-2, 8):
                    for held in range(-2, 9):
                        due = common and 0 <= shift < size and 0 <= held <= size
                        self.assertIs(due, is_region((size, factor, shift, held)))

    def test_any_other_value(self):
        for value in NOT_REGIONS:
            with self.subTest(value):
                self.assertIs(False, is_region(value))

    def test_each_element_is_an_integer(self):
        for at in range(4):
            for wrong in NOT_INTEGERS:
                value = [1, 1, 0, 1]
                value[at] = wrong
                with self.subTest(value):
                    self.assertIs(False, is_region(tuple(value)))


class Ranks(Case):
    def test_ranks_and_users(self):
        for region in SOME:
            for user, rank in enumerate(ranks(region)):
                with self.subTest(region=region, user=user):
                    self.assertEqual(rank, rank_of(region, user))
                    self.assertEqual(user, user_of(region, rank))

    def test_great_regions(self):
        for region in GREAT:
            size, factor, shift, _ = region
            for number in (0, 1, 2, size // 3, size // 2, size - 2, size - 1):
                with self.subTest(region=region, number=number), at_once():
                    self.assertEqual((factor * number + shift) % size, rank_of(region, number))
                    user = user_of(region, number)
                    self.assertTrue(0 <= user < size)
                    self.assertEqual(number, (factor * user + shift) % size)


class Counts(Case):
    def test_counts(self):
        for region in SOME:
            for share in range(1001):
                self.assertEqual(count_of(region, share), open_count(region, share))

    def test_bounds(self):
        self.assertEqual([0, 8], [open_count(EXAMPLE, 0), open_count(EXAMPLE, 1000)])
        self.assertEqual([0, 0, 1], [open_count((1000, 7, 3, 100), share) for share in (0, 1, 2)])
        self.assertEqual([0, 1], [open_count((1, 1, 0, 0), 999), open_count((1, 1, 0, 0), 1000)])
        self.assertEqual(0, open_count((12, 7, 5, 12), 1000))

    def test_is_open(self):
        for region in SOME:
            for share in SHARES:
                for user, rank in enumerate(ranks(region)):
                    self.assertIs(rank < count_of(region, share), is_open(region, share, user))

    def test_least_share(self):
        for region in SOME:
            for user, rank in enumerate(ranks(region)):
                shares = [share for share in range(1001) if rank < count_of(region, share)]
                with self.subTest(region=region, user=user):
                    self.assertEqual(min(shares, default=None), least_share(region, user))

    def test_great_regions(self):
        for region in GREAT:
            size, factor, shift, held = region
            for share in (0, 1, 333, 999, 1000):
                count = (size - held) * share // 1000
                with self.subTest(region=region, share=share), at_once():
                    self.assertEqual(count, open_count(region, share))
                    if count > 0:
                        self.assertIs(True, is_open(region, share, user_of(region, count - 1)))
                    if count < size:
                        self.assertIs(False, is_open(region, share, user_of(region, count)))

    def test_least_share_in_great_regions(self):
        for region in GREAT:
            size, _, _, held = region
            for rank in (0, 1, size // 7, size // 1000 - 1, size // 1000, size - held - 1, size - held, size - 1):
                if not 0 <= rank < size:
                    continue
                with self.subTest(region=region, rank=rank), at_once():
                    share = least_share(region, user_of(region, rank))
                    if rank >= size - held:
                        self.assertIsNone(share)
                    else:
                        self.assertTrue(1 <= share <= 1000)
                        self.assertGreater(count_of(region, share), rank)
                        self.assertLessEqual(count_of(region, share - 1), rank)


class UsersInOrder(Case):
    def test_nth_open(self):
        for region in SOME:
            for share in SHARES:
                users = users_open(region, share)
                with self.subTest(region=region, share=share):
                    self.assertEqual(users, [nth_open(region, share, index) for index in range(len(users))])
                    self.fails(InvalidIndex, nth_open, region, share, len(users))

    def test_count_open(self):
        for region in SOME:
            for share in (0, 100, 333, 500, 1000):
                users = users_open(region, share)
                for first in range(region[0]):
                    for last in range(region[0]):
                        due = len([user for user in users if first <= user <= last])
                        self.assertEqual(due, count_open(region, share, first, last))

    def test_no_users_between(self):
        self.assertEqual(0, count_open(EXAMPLE, 1000, 9, 0))
        self.assertEqual(0, count_open(EXAMPLE, 1000, 3, 2))
        self.assertEqual(1, count_open(EXAMPLE, 1000, 3, 3))

    def test_all_users_of_great_regions(self):
        for region in GREAT:
            for share in (0, 1, 500, 1000):
                with self.subTest(region=region, share=share), at_once():
                    self.assertEqual(count_of(region, share), count_open(region, share, 0, region[0] - 1))
                    self.assertEqual(0, count_open(region, share, region[0] - 1, 0))

    def test_short_spans_in_great_regions(self):
        for region in GREAT:
            size = region[0]
            for first in (0, size // 2, size // 3 * 2, size - 300):
                users = range(first, first + 300)
                due = [user for user in users if rank_of(region, user) < count_of(region, 400)]
                with self.subTest(region=region, first=first), at_once():
                    self.assertEqual(len(due), count_open(region, 400, first, first + 299))

    def test_long_spans_fit_together_in_great_regions(self):
        for region in GREAT:
            size = region[0]
            with self.subTest(region), at_once():
                low = count_open(region, 700, 0, size // 3)
                middle = count_open(region, 700, size // 3 + 1, size - 5)
                high = count_open(region, 700, size - 4, size - 1)
                self.assertEqual(count_of(region, 700), low + middle + high)

    def test_nth_open_in_great_regions(self):
        for region in GREAT:
            size = region[0]
            for share in (1, 500, 1000):
                count = count_of(region, share)
                for index in (0, 1, count // 3, count - 2, count - 1):
                    if not 0 <= index < count:
                        continue
                    with self.subTest(region=region, share=share, index=index), at_once():
                        user = nth_open(region, share, index)
                        self.assertTrue(0 <= user < size)
                        self.assertLess(rank_of(region, user), count)
                        self.assertEqual(index + 1, count_open(region, share, 0, user))

    def test_nth_open_in_all_small_regions(self):
        for size in range(1, 15):
            for factor in range(1, size + 1):
                if math.gcd(factor, size) != 1:
                    continue
                for shift in range(size):
                    for held in range(size + 1):
                        region = (size, factor, shift, held)
                        users = users_open(region, 1000)
                        self.assertEqual(users, [nth_open(region, 1000, index) for index in range(len(users))])

    def test_nth_open_in_regions_of_any_size(self):
        source = random.Random(11)
        for digits in (2, 4, 8, 15, 22, 30):
            for _ in range(60):
                region = some_region(source, 10 ** digits)
                share = source.choice((1, 3, 250, 500, 998, 999, 1000))
                count = count_of(region, share)
                for index in (0, count // 2, count - 1, source.randrange(count or 1)):
                    if not 0 <= index < count:
                        continue
                    with self.subTest(region=region, share=share, index=index):
                        user = nth_open(region, share, index)
                        self.assertTrue(0 <= user < region[0])
                        self.assertLess(rank_of(region, user), count)
                        self.assertEqual(index + 1, count_open(region, share, 0, user))

    def test_nth_open_of_the_issue(self):
        region = (999999999999999999999999999989, 618033988749894848204586834365, 3, 0)
        self.assertEqual(499999999999999999999999999994, nth_open(region, 1000, 499999999999999999999999999994))

    def test_many_calls_of_nth_open_in_great_regions(self):
        # A search that sums anew for each step takes more than ten times as long.
        region = (999999999999999999999999999989, 618033988749894848204586834365, 3, 0)
        count = count_of(region, 777)
        with at_once(8):
            users = [nth_open(region, 777, count * part // 5000) for part in range(5000)]
        self.assertEqual(sorted(set(users)), users)

    def test_first_and_last_index(self):
        region = (BIG, 1, 0, 10 ** 29)
        with at_once():
            self.assertEqual(0, nth_open(region, 1000, 0))
            self.assertEqual(BIG - 10 ** 29 - 1, nth_open(region, 1000, BIG - 10 ** 29 - 1))
            self.fails(InvalidIndex, nth_open, region, 1000, BIG - 10 ** 29)


class WrongArguments(Case):
    def test_region(self):
        for wrong in NOT_REGIONS:
            with self.subTest(wrong):
                self.fails(InvalidRegion, rank_of, wrong, 0)
                self.fails(InvalidRegion, user_of, wrong, 0)
                self.fails(InvalidRegion, open_count, wrong, 0)
                self.fails(InvalidRegion, is_open, wrong, 0, 0)
                self.fails(InvalidRegion, least_share, wrong, 0)
                self.fails(InvalidRegion, count_open, wrong, 0, 0, 0)
                self.fails(InvalidRegion, nth_open, wrong, 1000, 0)

    def test_share(self):
        for wrong in (*NOT_INTEGERS, -1, 1001, BIG, -BIG):
            with self.subTest(wrong):
                self.fails(InvalidShare, open_count, EXAMPLE, wrong)
                self.fails(InvalidShare, is_open, EXAMPLE, wrong, 0)
                self.fails(InvalidShare, count_open, EXAMPLE, wrong, 0, 0)
                self.fails(InvalidShare, nth_open, EXAMPLE, wrong, 0)

    def test_user(self):
        for wrong in (*NOT_INTEGERS, -1, 10, BIG, -BIG):
            with self.subTest(wrong):
                self.fails(InvalidUser, rank_of, EXAMPLE, wrong)
                self.fails(InvalidUser, is_open, EXAMPLE, 500, wrong)
                self.fails(InvalidUser, least_share, EXAMPLE, wrong)
                self.fails(InvalidUser, count_open, EXAMPLE, 500, wrong, 0)
                self.fails(InvalidUser, count_open, EXAMPLE, 500, 0, wrong)
                self.fails(InvalidUser, count_open, EXAMPLE, 500, 9, wrong)

    def test_rank(self):
        for wrong in (*NOT_INTEGERS, -1, 10, BIG, -BIG):
            with self.subTest(wrong):
                self.fails(InvalidRank, user_of, EXAMPLE, wrong)

    def test_index(self):
        for wrong in (*NOT_INTEGERS, -1, 4, 5, BIG, -BIG):
            with self.subTest(wrong):
                self.fails(InvalidIndex, nth_open, EXAMPLE, 500, wrong)

    def test_no_index_where_the_region_is_open_to_none(self):
        self.fails(InvalidIndex, nth_open, EXAMPLE, 0, 0)
        self.fails(InvalidIndex, nth_open, (12, 7, 5, 12), 1000, 0)
        self.fails(InvalidIndex, nth_open, (1, 1, 0, 0), 999, 0)

    def test_first_wrong_argument_tells(self):
        self.fails(InvalidRegion, rank_of, None, None)
        self.fails(InvalidRegion, user_of, None, None)
        self.fails(InvalidRegion, open_count, None, None)
        self.fails(InvalidRegion, is_open, None, None, None)
        self.fails(InvalidShare, is_open, EXAMPLE, None, None)
        self.fails(InvalidRegion, least_share, None, None)
        self.fails(InvalidRegion, count_open, None, None, None, None)
        self.fails(InvalidShare, count_open, EXAMPLE, None, None, None)
        self.fails(InvalidRegion, nth_open, None, None, None)
        self.fails(InvalidShare, nth_open, EXAMPLE, None, None)
        self.fails(InvalidShare, nth_open, share=None, index=None, region=EXAMPLE)


if __name__ == "__main__":
    unittest.main()
