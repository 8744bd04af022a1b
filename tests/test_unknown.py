"""Point [16]: unknown readings."""

import copy
import random
import unittest

from stagedplans.errors import InvalidPartials, InvalidUser, InvalidWord, NoRegion, NotAPlan
from stagedplans.harm import harm_of
from stagedplans.states import begin, counts, has_version, state_after, states, step
from stagedplans.unknown import bound_histories, count_bounds, filling_to, harm_bounds, possible_states
from stagedplans.unknown import surely_open, telling_periods
from tests.helper import BIG, Case, NOT_INTEGERS, NOT_PLANS, P, R, at_once, changed, letters_of, some_plans
from tests.slow import filled, fits
from tests.test_states import one_signal, two_regions
from tests.test_worst import big_plan

WORDS = ("open", "done", "stopped")
NOT_WORDS = (*NOT_INTEGERS, "Open", "open ", "stop", "drop", "donE", ("open",), ["done"], b"open", 0, 2)
# Values that are no partial letters for two signals.
NOT_PARTIALS = (
    *NOT_INTEGERS, (None,), (None,) * 3, [None, None], (0, 3), (3, None), (None, -1), (True, None), (None, False),
    (None, 1.0), ("0", None), (None, ()), ((None, None),), "NN",
)
ALL_WITH_PARTIALS = (possible_states, count_bounds, harm_bounds, telling_periods, bound_histories)


def some_partials(source, number, periods):
    return [tuple(source.choice((None, None, 0, 1, 2)) for _ in range(number)) for _ in range(periods)]


def cases(seed):
    """Return plans with a few lists of partial letters each."""
    source = random.Random(seed)
    rows = []
    for plan in some_plans(seed, 60, regions=2, signals=1):
        rows += [(plan, some_partials(source, 1, periods)) for periods in (0, 1, 3, 5)]
    for plan in some_plans(seed, 30, regions=2, signals=2):
        if len(plan[1]) == 2:
            rows += [(plan, some_partials(source, 2, periods)) for periods in (1, 2, 3)]
    return rows


def slow_telling(plan, partials):
    """Return the indexes with two histories that fit, differ there only, and lead apart."""
    number = len(plan[1])
    telling = []
    for at in range(len(partials)):
        groups = {}
        for letters in filled(number, partials):
            rest = (tuple(letters[:at]), tuple(letters[at + 1:]))
            groups.setdefault(rest, set()).add(state_after(plan, letters))
        if any(len(group) > 1 for group in groups.values()):
            telling.append(at)
    return telling


class Examples(Case):
    def test_document(self):
        partials = [(None,), (1,)]
        self.assertEqual(
            [("open", 0, 1, ((1,),), (), 0), ("open", 0, 1, ((1,),), (), 1), ("open", 1, 0, (), (), 1)],
            possible_states(P, partials),
        )
        self.assertEqual([(90, 900), (0, 5)], count_bounds(P, partials))
        self.assertEqual((0, 90), harm_bounds(P, partials))
        self.assertEqual(([(0,), (1,)], [(2,), (1,)]), bound_histories(P, partials))
        self.assertEqual([0], telling_periods(P, partials))

    def test_arguments_by_name(self):
        partials = [(None,), (1,)]
        self.assertEqual(3, len(possible_states(partials=partials, plan=P)))
        self.assertEqual([(90, 900), (0, 5)], count_bounds(partials=partials, plan=P))
        self.assertEqual((0, 90), harm_bounds(partials=partials, plan=P))
        self.assertEqual([0], telling_periods(partials=partials, plan=P))
        self.assertEqual(([(0,), (1,)], [(2,), (1,)]), bound_histories(partials=partials, plan=P))
        self.assertIs(False, surely_open(user=0, region=1, partials=partials, plan=P))
        self.assertEqual([(0,), (1,)], filling_to(word="open", partials=partials, plan=P))

    def test_no_partial_letters(self):
        for plan in (P, R):
            self.assertEqual([begin(plan)], possible_states(plan, []))
            self.assertEqual([(count, count) for count in counts(plan, begin(plan))], count_bounds(plan, []))
            self.assertEqual((0, 0), harm_bounds(plan, []))
            self.assertEqual(([], []), bound_histories(plan, []))
            self.assertEqual([], telling_periods(plan, []))
            self.assertEqual([], filling_to(plan, [], "open"))
            self.assertIsNone(filling_to(plan, [], "done"))
            self.assertIsNone(filling_to(plan, [], "stopped"))

    def test_nothing_is_unknown(self):
        letters = [(1, 2), (0, 2), (2, 0)]
        for length in range(4):
            known = letters[:length]
            state = state_after(R, known)
            self.assertEqual([state], possible_states(R, known))
            self.assertEqual([(count, count) for count in counts(R, state)], count_bounds(R, known))
            self.assertEqual((harm_of(R, known),) * 2, harm_bounds(R, known))
            self.assertEqual((known, known), bound_histories(R, known))
            self.assertEqual([], telling_periods(R, known))
            for word in WORDS:
                self.assertEqual(known if word == state[0] else None, filling_to(R, known, word))

    def test_all_is_unknown(self):
        partials = [(None, None)] * 2
        due = {state_after(R, [letter, other]) for letter in letters_of(2) for other in letters_of(2)}
        self.assertEqual(sorted(due), possible_states(R, partials))
        # Region 1 is dropped behind the first bad letter of its signal.
        self.assertEqual(([(0, 0), (0, 0)], [(2, 0), (2, 2)]), bound_histories(R, partials))
        self.assertEqual((0, 2 * 10 * 2 + 3 * 20), harm_bounds(R, partials))


class Bounds(Case):
    def test_against_all_fillings(self):
        for plan, partials in cases(30):
            fillings = filled(len(plan[1]), partials)
            reached = {state_after(plan, letters) for letters in fillings}
            rows = [counts(plan, state) for state in reached]
            harms = [harm_of(plan, letters) for letters in fillings]
            with self.subTest(plan=plan, partials=partials):
                self.assertEqual(sorted(reached), possible_states(plan, partials))
                self.assertEqual([(min(column), max(column)) for column in zip(*rows)], count_bounds(plan, partials))
                self.assertEqual((min(harms), max(harms)), harm_bounds(plan, partials))
                least, greatest = bound_histories(plan, partials)
                self.assertEqual(fillings[harms.index(min(harms))], least)
                self.assertEqual(fillings[harms.index(max(harms))], greatest)

    def test_least_history_of_several(self):
        plan = two_regions(((500, 500), 9, (), ()))
        self.assertEqual(([(0, 0)] * 2, [(2, 2)] * 2), bound_histories(plan, [(None, None)] * 2))
        self.assertEqual(([(0, 0)] * 2, [(2, 0)] * 2), bound_histories(changed(plan, (1, 1, 3), 0), [(None, None)] * 2))
        self.assertEqual(([(1, 0)], [(1, 2)]), bound_histories(plan, [(1, None)]))
        self.assertEqual(([(0, 1)], [(2, 1)]), bound_histories(plan, [(None, 1)]))
        free = changed(changed(plan, (1, 1, 3), 0), (1, 0, 3), 0)
        self.assertEqual(([(0, 0)] * 3, [(0, 0)] * 3), bound_histories(free, [(None, None)] * 3))

    def test_less_harm_now_for_more_later(self):
        # A bad letter at the first stage stops the plan; the next stage has ten times the users.
        stop = (((0, 2, 1, 1), ("stop",)),)
        plan = one_signal(((100,), 1, (), stop), ((1000,), 1, (), stop), regions=((10, 1, 0, 0),))
        self.assertEqual(([(0,), (0,)], [(0,), (2,)]), bound_histories(plan, [(None,), (None,)]))
        self.assertEqual((0, 10), harm_bounds(plan, [(None,), (None,)]))
        self.assertEqual((1, 10), harm_bounds(plan, [(None,), (2,)]))
        self.assertEqual(([(2,), (2,)], [(0,), (2,)]), bound_histories(plan, [(None,), (2,)]))
        self.assertEqual(([(2,)], [(2,)]), bound_histories(plan, [(2,)]))

    def test_surely_open(self):
        for plan, partials in cases(31)[::3]:
            reached = {state_after(plan, letters) for letters in filled(len(plan[1]), partials)}
            for region, (size, _, _, _) in enumerate(plan[0]):
                for user in range(size):
                    due = all(has_version(plan, state, region, user) for state in reached)
                    self.assertIs(due, surely_open(plan, partials, region, user))

    def test_surely_open_in_the_document_plan(self):
        partials = [(None,), (1,)]
        opened = [user for user in range(1000) if surely_open(P, partials, 0, user)]
        self.assertEqual([user for user in range(1000) if (7 * user + 3) % 1000 < 90], opened)
        self.assertIs(True, surely_open(P, [(1,), (1,)], 1, 0))
        self.assertIs(False, surely_open(P, partials, 1, 0))

    def test_thirty_digits(self):
        plan = changed(changed(P, (0, 0), (BIG, 1, 0, 0)), (1, 0, 3), BIG)
        self.assertEqual((0, BIG * (BIG // 10 + BIG)), harm_bounds(plan, [(None,)] * 5))
        self.assertEqual([(0, BIG), (0, 5)], count_bounds(plan, [(None,)] * 5))
        self.assertIs(True, surely_open(plan, [(None,)], 0, 0))
        self.assertIs(False, surely_open(plan, [(None,)], 0, BIG - 1))


class Telling(Case):
    def test_against_all_fillings(self):
        told = {True: 0, False: 0}
        for plan, partials in cases(32):
            due = slow_telling(plan, partials)
            told[len(due) > 0] += 1
            self.assertEqual(due, telling_periods(plan, partials), (plan, partials))
        self.assertGreater(min(told.values()), 30)

    def test_words_of_the_point(self):
        # A difference that later letters make up for does not tell.
        plan = one_signal(((500,), 1, ((0, 1, 1, 1),), ()))
        self.assertEqual([0, 1], telling_periods(plan, [(None,), (None,)]))
        self.assertEqual([], telling_periods(plan, [(None,), (1,)]))
        self.assertEqual([0], telling_periods(plan, [(None,), (2,)]))
        self.assertEqual([], telling_periods(plan, [(1,), (None,)]))
        self.assertEqual([1], telling_periods(plan, [(2,), (None,)]))
        self.assertEqual([0, 2], telling_periods(plan, [(None,), (2,), (None,)]))

    def test_one_of_two_grades_unknown(self):
        plan = two_regions(((500, 500), 1, ((0, 1, 1, 1),), ()))
        self.assertEqual([], telling_periods(plan, [(2, None)]))
        self.assertEqual([0], telling_periods(plan, [(None, 2)]))
        self.assertEqual([1], telling_periods(plan, [(0, None), (None, 0), (0, None)]))

    def test_the_histories_differ_in_one_letter_only(self):
        # Two of three letters have to be good: with the others known not to be, one more is too few.
        plan = one_signal(((500,), 3, ((0, 1, 2, 3),), (((0, 0, 1, 3), ("stop",)),)))
        self.assertEqual([], telling_periods(plan, [(2,), (2,), (2,)]))
        self.assertEqual([0, 1, 2], telling_periods(plan, [(None,), (None,), (None,)]))

    def test_limits(self):
        # 28 states of two signals, and sixty partial letters.
        stage = ((300, 500), 1, ((0, 1, 2, 2), (1, 1, 1, 2)), (((1, 2, 2, 2), ("back", 0)),))
        plan = two_regions(stage, stage, tries=0)
        self.assertEqual(22, len(states(plan)))
        with at_once(10):
            for _ in range(10):
                self.assertEqual([], telling_periods(plan, [(1, 1), (1, 1)] + [(1, 1)] * 58))
                self.assertEqual([59], telling_periods(plan, [(0, 0)] * 59 + [(None, None)]))
                self.assertEqual(list(range(60)), telling_periods(plan, [(None, None)] * 60))


class Filling(Case):
    def test_against_all_fillings(self):
        found = {True: 0, False: 0}
        for plan, partials in cases(33):
            fillings = filled(len(plan[1]), partials)
            for word in WORDS:
                due = next((letters for letters in fillings if state_after(plan, letters)[0] == word), None)
                found[due is not None] += 1
                self.assertEqual(due, filling_to(plan, partials, word))
        self.assertGreater(min(found.values()), 100)

    def test_document_plan(self):
        self.assertEqual([(1,), (1,), (0,)], filling_to(P, [(None,)] * 3, "done"))
        self.assertEqual([(0,), (1,), (1,), (0,)], filling_to(P, [(None,)] * 4, "done"))
        self.assertEqual([(0,), (2,), (2,)], filling_to(P, [(None,), (2,), (None,)], "stopped"))
        self.assertIsNone(filling_to(P, [(None,)] * 2, "done"))
        self.assertIsNone(filling_to(P, [(0,), (None,), (None,)], "done"))

    def test_words_that_no_filling_leads_to(self):
        plan = one_signal(((500,), 1, (), ()))
        self.assertIsNone(filling_to(plan, [(None,)], "stopped"))
        self.assertIsNone(filling_to(plan, [(None,)], "open"))
        self.assertEqual([(0,)], filling_to(plan, [(None,)], "done"))


class Limits(Case):
    def test_two_hundred_partial_letters(self):
        plan = big_plan()
        for partials in ([(None, None)] * 200, [(None, 0), (2, None), (None, None), (0, 1)] * 50):
            with at_once(20):
                for _ in range(10):
                    reached = possible_states(plan, partials)
                    least, greatest = bound_histories(plan, partials)
                    self.assertEqual((harm_of(plan, least), harm_of(plan, greatest)), harm_bounds(plan, partials))
                    self.assertEqual(2, len(count_bounds(plan, partials)))
                    for letters in (least, greatest):
                        self.assertTrue(all(fits(letter, partial) for letter, partial in zip(letters, partials)))
                        self.assertIn(state_after(plan, letters), reached)

    def test_states_one_period_later(self):
        plan = big_plan()
        partials = [(None, 0), (2, None), (None, None), (0, 1)] * 10
        before = possible_states(plan, partials[:-1])
        self.assertEqual(sorted({step(plan, state, (0, 1)) for state in before}), possible_states(plan, partials))

    def test_new_lists_and_arguments_that_do_not_change(self):
        partials = [(None,), (1,)]
        kept = copy.deepcopy(partials)
        for given in (partials, [], [(2,)]):
            self.gives_new_lists(possible_states, P, given)
            self.gives_new_lists(count_bounds, P, given)
            self.gives_new_lists(telling_periods, P, given)
            self.gives_new_lists(filling_to, P, given, "open")
            first, second = bound_histories(P, given), bound_histories(P, given)
            self.assertEqual(first, second)
            lists = [*first, *second]
            self.assertEqual(4, len({id(one) for one in lists}))
            self.assertNotIn(id(given), {id(one) for one in lists})
        surely_open(P, partials, 0, 0)
        harm_bounds(P, partials)
        self.assertEqual(kept, partials)


class WrongArguments(Case):
    def test_plan(self):
        for wrong in NOT_PLANS:
            with self.subTest(wrong):
                for function in ALL_WITH_PARTIALS:
                    self.fails(NotAPlan, function, wrong, [])
                self.fails(NotAPlan, surely_open, wrong, [], 0, 0)
                self.fails(NotAPlan, filling_to, wrong, [], "open")

    def test_partials(self):
        wrongs = [value for value in NOT_INTEGERS if value != []] + [((1, 1),), "11", (1, 1), {(1, 1): 1}]
        wrongs += [[wrong] for wrong in NOT_PARTIALS] + [[(1, None), wrong, (1, 1)] for wrong in NOT_PARTIALS]
        for wrong in wrongs:
            with self.subTest(wrong):
                for function in ALL_WITH_PARTIALS:
                    self.fails(InvalidPartials, function, R, wrong)
                self.fails(InvalidPartials, surely_open, R, wrong, 0, 0)
                self.fails(InvalidPartials, filling_to, R, wrong, "open")

    def test_region_and_user(self):
        for wrong in (*NOT_INTEGERS, -1, 2, BIG):
            with self.subTest(wrong):
                self.fails(NoRegion, surely_open, R, [], wrong, 0)
        for wrong in (*NOT_INTEGERS, -1, 50, 99, BIG):
            with self.subTest(wrong):
                self.fails(InvalidUser, surely_open, R, [(None, 1)], 1, wrong)
        self.fails(InvalidUser, surely_open, R, [], 0, 100)

    def test_word(self):
        for wrong in NOT_WORDS:
            with self.subTest(wrong):
                self.fails(InvalidWord, filling_to, R, [], wrong)
                self.fails(InvalidWord, filling_to, R, [(None, 2)], wrong)

    def test_first_wrong_argument_tells(self):
        for function in ALL_WITH_PARTIALS:
            self.fails(NotAPlan, function, None, None)
        self.fails(NotAPlan, surely_open, None, None, None, None)
        self.fails(InvalidPartials, surely_open, P, None, None, None)
        self.fails(NoRegion, surely_open, P, [], None, None)
        self.fails(NoRegion, surely_open, user=-1, region=2, partials=[], plan=P)
        self.fails(NotAPlan, filling_to, None, None, None)
        self.fails(InvalidPartials, filling_to, P, None, None)


if __name__ == "__main__":
    unittest.main()
