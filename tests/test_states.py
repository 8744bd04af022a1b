"""Points [11] to [13]: states, periods and histories."""

import copy
import unittest

from stagedplans.errors import InvalidLetter, InvalidLetters, InvalidState, InvalidUser, NoRegion, NotAPlan
from stagedplans.states import begin, counts, has_version, history_to, is_state, state_after, states, step
from tests.helper import BIG, Case, Model, NOT_INTEGERS, NOT_PLANS, P, R
from tests.helper import changed, histories_of, letters_of, model_after, some_plans, stay_form
from tests.test_plans import FULL, GREATEST

TWO = ((10, 3, 4, 2), (7, 3, 2, 0))
# Values that are no letters for two signals.
NOT_LETTERS = (
    *NOT_INTEGERS, (0,), (0, 0, 0), [0, 0], (0, 3), (3, 0), (-1, 0), (0, -1), (True, 0), (0, True), (False, 0),
    (None, 0), (0, None), (0, 1.0), ("0", "0"), "00", ((0, 0),), b"\x00\x00",
)


def one_signal(*stages, tries=0, regions=TWO[:1]):
    return (regions, ((0, 20, 5, 1),), stages, tries)


def two_regions(*stages, tries=0):
    """Two regions, with a signal each."""
    return (TWO, ((0, 20, 5, 1), (1, 20, 5, 2)), stages, tries)


class Examples(Case):
    def test_first_plan(self):
        self.assertEqual(("open", 0, 1, ((1,),), (), 1), state_after(P, [(1,)]))
        self.assertEqual(("open", 1, 0, (), (), 1), state_after(P, [(1,), (1,)]))
        self.assertEqual(("open", 0, 0, (), (), 0), state_after(P, [(0,), (2,)]))
        self.assertEqual([90, 0], counts(P, state_after(P, [])))
        self.assertEqual([900, 5], counts(P, state_after(P, [(1,), (1,), (2,)])))
        self.assertEqual(10, len(states(P)))

    def test_second_plan(self):
        self.assertEqual(("open", 0, 1, ((1, 2),), (1,), 0), state_after(R, [(1, 2)]))
        self.assertEqual(("open", 1, 0, (), (1,), 0), state_after(R, [(1, 2), (0, 2)]))
        self.assertEqual(("done", (1,)), state_after(R, [(1, 2), (0, 2), (2, 0)]))
        self.assertEqual([10, 20], counts(R, state_after(R, [])))
        self.assertEqual([10, 0], counts(R, state_after(R, [(1, 2)])))

    def test_begin(self):
        self.assertEqual(("open", 0, 0, (), (), 1), begin(P))
        self.assertEqual(("open", 0, 0, (), (), 0), begin(R))
        self.assertEqual(("open", 0, 0, (), (), BIG), begin(changed(P, (3,), BIG)))

    def test_arguments_by_name(self):
        state = begin(plan=P)
        self.assertEqual(("open", 0, 1, ((1,),), (), 1), step(letter=(1,), state=state, plan=P))
        self.assertEqual(state, state_after(letters=[], plan=P))
        self.assertEqual([90, 0], counts(state=state, plan=P))
        self.assertIs(True, is_state(value=state, plan=P))
        self.assertEqual(10, len(states(plan=P)))
        self.assertEqual([], history_to(state=state, plan=P))
        self.assertIs(True, has_version(user=0, region=0, state=state, plan=P))
        self.assertIs(False, has_version(user=0, region=1, state=state, plan=P))


class OnePeriod(Case):
    def leads(self, plan, letters, state):
        with self.subTest(plan=plan, letters=letters):
            self.assertEqual(state, state_after(plan, letters))

    def test_hold(self):
        plan = one_signal(((500,), 3, (), ()))
        self.leads(plan, [(0,)], ("open", 0, 1, (), (), 0))
        self.leads(plan, [(0,), (2,)], ("open", 0, 2, (), (), 0))
        self.leads(plan, [(0,), (2,), (1,)], ("done", ()))

    def test_age_stays_below_the_hold(self):
        plan = one_signal(((500,), 2, ((0, 1, 1, 1),), ()))
        self.leads(plan, [(0,)], ("open", 0, 1, (), (), 0))
        self.leads(plan, [(0,)] * 9, ("open", 0, 1, (), (), 0))
        self.leads(plan, [(0,)] * 9 + [(1,)], ("done", ()))
        self.leads(plan, [(1,)], ("open", 0, 1, (), (), 0))

    def test_tail_is_shorter_than_the_greatest_window(self):
        plan = one_signal(((500,), 1, ((0, 1, 3, 3), (0, 1, 1, 2)), (((0, 2, 2, 2), ("stop",)),)))
        self.leads(plan, [(0,)], ("open", 0, 0, ((0,),), (), 0))
        self.leads(plan, [(0,), (1,)], ("open", 0, 0, ((0,), (1,)), (), 0))
        self.leads(plan, [(0,), (1,), (2,)], ("open", 0, 0, ((1,), (2,)), (), 0))
        self.leads(plan, [(0,), (1,), (1,), (1,)], ("done", ()))

    def test_window_of_a_guard_makes_the_tail_longer(self):
        plan = one_signal(((500,), 1, ((0, 1, 2, 2),), (((0, 2, 3, 4), ("stop",)),)))
        self.leads(plan, [(0,), (2,), (0,), (2,)], ("open", 0, 0, ((2,), (0,), (2,)), (), 0))
        self.leads(plan, [(0,), (2,), (0,), (2,), (2,)], ("stopped",))
        self.leads(plan, [(2,), (0,), (0,), (2,), (2,)], ("open", 0, 0, ((0,), (2,), (2,)), (), 0))

    def test_condition_counts_within_its_window(self):
        plan = one_signal(((500,), 1, ((0, 1, 2, 3),), ()))
        self.leads(plan, [(1,), (0,)], ("open", 0, 0, ((1,), (0,)), (), 0))
        self.leads(plan, [(1,), (0,), (1,)], ("done", ()))
        self.leads(plan, [(1,), (0,), (0,), (1,)], ("open", 0, 0, ((0,), (1,)), (), 0))
        self.leads(plan, [(1,), (1,)], ("done", ()))

    def test_condition_of_a_short_stay_counts_all(self):
        plan = one_signal(((500,), 1, ((0, 0, 1, 4),), (((0, 2, 1, 4), ("stop",)),)))
        self.leads(plan, [(2,)], ("stopped",))
        self.leads(plan, [(0,)], ("done", ()))

    def test_every_grade_counts_at_its_signal(self):
        for grade in range(3):
            for other in range(3):
                plan = two_regions(((500, 500), 1, ((1, grade, 1, 1),), ()))
                due = ("done", ()) if grade == other else ("open", 0, 0, (), (), 0)
                self.leads(plan, [(grade, other)], due)

    def test_all_needs_have_to_hold(self):
        plan = two_regions(((500, 500), 1, ((0, 1, 1, 1), (1, 1, 1, 1)), ()))
        self.leads(plan, [(1, 0)], ("open", 0, 0, (), (), 0))
        self.leads(plan, [(0, 1)], ("open", 0, 0, (), (), 0))
        self.leads(plan, [(1, 1)], ("done", ()))

    def test_stop(self):
        plan = one_signal(((500,), 1, (), (((0, 2, 1, 1), ("stop",)),)), tries=3)
        self.leads(plan, [(2,)], ("stopped",))
        self.leads(plan, [(1,)], ("done", ()))

    def test_guard_goes_ahead_of_the_next_stage(self):
        plan = one_signal(((500,), 1, ((0, 2, 1, 1),), (((0, 2, 1, 1), ("back", 0)),)), tries=1)
        self.leads(plan, [(2,)], ("open", 0, 0, (), (), 0))

    def test_guard_acts_ahead_of_the_hold(self):
        plan = one_signal(((500,), 5, (), (((0, 2, 1, 1), ("stop",)),)))
        self.leads(plan, [(0,), (2,)], ("stopped",))

    def test_back(self):
        stages = (
            ((100,), 1, (), ()),
            ((500,), 2, ((0, 1, 1, 2),), (((0, 2, 1, 1), ("back", 0)), ((0, 0, 1, 1), ("back", 1)))),
        )
        plan = one_signal(*stages, tries=2)
        self.leads(plan, [(1,)], ("open", 1, 0, (), (), 2))
        self.leads(plan, [(1,), (2,)], ("open", 0, 0, (), (), 1))
        self.leads(plan, [(1,), (1,), (0,)], ("open", 1, 0, (), (), 1))
        self.leads(plan, [(1,), (0,), (2,)], ("open", 0, 0, (), (), 0))
        self.leads(plan, [(1,), (0,), (2,), (2,)], ("open", 1, 0, (), (), 0))
        self.leads(plan, [(1,), (0,), (2,), (2,), (0,)], ("stopped",))
        self.leads(plan, [(1,), (0,), (2,), (2,), (2,)], ("stopped",))

    def test_back_begins_with_an_empty_stay(self):
        plan = one_signal(((500,), 2, (), (((0, 2, 2, 3), ("back", 0)),)), tries=1)
        self.leads(changed(plan, (2, 0, 1), 4), [(2,), (2,)], ("open", 0, 0, (), (), 0))
        self.leads(changed(plan, (2, 0, 1), 4), [(2,), (2,), (2,)], ("open", 0, 1, ((2,),), (), 0))

    def test_back_without_tries_stops(self):
        plan = one_signal(((500,), 1, (), (((0, 2, 1, 1), ("back", 0)),)))
        self.leads(plan, [(2,)], ("stopped",))

    def test_next_stage_begins_with_an_empty_stay(self):
        stage = ((500,), 1, ((0, 1, 2, 2),), ())
        plan = one_signal(stage, stage)
        self.leads(plan, [(1,), (1,)], ("open", 1, 0, (), (), 0))
        self.leads(plan, [(1,), (1,), (1,)], ("open", 1, 0, ((1,),), (), 0))
        self.leads(plan, [(1,), (1,), (1,), (1,)], ("done", ()))

    def test_first_guard_that_holds_acts(self):
        guards = (((0, 2, 2, 2), ("back", 0)), ((0, 2, 1, 2), ("stop",)), ((0, 2, 1, 1), ("back", 0)))
        plan = one_signal(((500,), 4, (), guards), tries=1)
        self.leads(plan, [(2,)], ("stopped",))
        plan = changed(plan, (2, 0, 3), (guards[2], guards[1]))
        self.leads(plan, [(2,)], ("open", 0, 0, (), (), 0))
        self.leads(plan, [(2,), (2,)], ("stopped",))

    def test_drop_goes_on_with_the_stay(self):
        plan = two_regions(((500, 500), 1, (), (((0, 2, 1, 1), ("drop", 1)),)))
        self.leads(plan, [(2, 1)], ("open", 0, 0, (), (1,), 0))
        self.leads(plan, [(2, 1), (1, 1)], ("done", (1,)))

    def test_drop_keeps_age_and_tail(self):
        plan = two_regions(((500, 500), 3, ((0, 1, 2, 3),), (((0, 2, 1, 1), ("drop", 1)),)))
        self.leads(plan, [(1, 0), (2, 0)], ("open", 0, 2, ((1, 0), (2, 0)), (1,), 0))
        self.leads(plan, [(1, 0), (2, 0), (1, 0)], ("done", (1,)))
        self.leads(plan, [(2, 0), (0, 0), (1, 0)], ("open", 0, 2, ((0, 0), (1, 0)), (1,), 0))

    def test_all_regions_dropped(self):
        guards = (((0, 2, 1, 1), ("drop", 1)), ((0, 1, 1, 1), ("drop", 0)))
        plan = two_regions(((500, 500), 9, (), guards))
        self.leads(plan, [(2, 0), (1, 0)], ("stopped",))
        self.leads(plan, [(1, 0), (2, 0)], ("open", 0, 2, (), (0,), 0))
        self.leads(one_signal(((500,), 1, (), (((0, 2, 1, 1), ("drop", 0)),)), tries=3), [(2,)], ("stopped",))

    def test_dropped_regions_are_ascending(self):
        guards = (((0, 2, 1, 1), ("drop", 2)), ((0, 1, 1, 1), ("drop", 1)), ((0, 0, 1, 1), ("drop", 0)))
        plan = (TWO + TWO, ((3, 20, 5, 1),), (((500,) * 4, 9, (), guards),), 0)
        self.leads(plan, [(2,), (1,), (0,)], ("open", 0, 3, (), (0, 1, 2), 0))
        self.leads(plan, [(1,), (2,)], ("open", 0, 2, (), (1, 2), 0))
        self.leads(plan, [(0,), (2,)], ("open", 0, 2, (), (0, 2), 0))

    def test_guard_of_a_dropped_region_is_passed_over(self):
        guards = (((1, 2, 1, 1), ("drop", 1)), ((1, 0, 1, 1), ("stop",)), ((0, 0, 1, 1), ("stop",)))
        plan = two_regions(((500, 500), 5, (), guards))
        self.leads(plan, [(1, 0)], ("stopped",))
        self.leads(plan, [(1, 2), (1, 0)], ("open", 0, 2, (), (1,), 0))
        self.leads(plan, [(1, 2), (1, 2), (0, 0)], ("stopped",))

    def test_guard_that_drops_a_dropped_region_is_passed_over(self):
        guards = (((0, 2, 1, 1), ("drop", 1)), ((0, 2, 1, 1), ("stop",)))
        plan = two_regions(((500, 500), 5, (), guards))
        self.leads(plan, [(2, 0)], ("open", 0, 1, (), (1,), 0))
        self.leads(plan, [(2, 0), (2, 0)], ("stopped",))

    def test_one_guard_acts_in_a_period(self):
        guards = (((0, 2, 1, 1), ("drop", 1)), ((0, 2, 1, 1), ("stop",)))
        plan = two_regions(((500, 500), 1, (), guards))
        self.leads(plan, [(2, 0)], ("open", 0, 0, (), (1,), 0))

    def test_need_of_a_dropped_region_counts_as_one_that_holds(self):
        stage = ((500, 500), 1, ((1, 1, 1, 1), (0, 1, 1, 1)), (((1, 2, 1, 1), ("drop", 1)),))
        plan = two_regions(stage, stage)
        self.leads(plan, [(1, 0)], ("open", 0, 0, (), (), 0))
        self.leads(plan, [(1, 2)], ("open", 0, 0, (), (1,), 0))
        self.leads(plan, [(1, 2), (0, 0)], ("open", 0, 0, (), (1,), 0))
        self.leads(plan, [(1, 2), (1, 0)], ("open", 1, 0, (), (1,), 0))
        self.leads(plan, [(1, 2), (1, 0), (1, 2)], ("done", (1,)))

    def test_dropped_regions_and_tries_stay_when_it_goes_back(self):
        guards = (((1, 2, 1, 1), ("drop", 1)), ((0, 2, 1, 1), ("back", 0)))
        plan = two_regions(((500, 500), 2, (), guards), ((500, 500), 2, (), guards), tries=2)
        self.leads(plan, [(0, 2), (2, 2)], ("open", 0, 0, (), (1,), 1))
        self.leads(plan, [(0, 2), (0, 2), (2, 2)], ("open", 0, 0, (), (1,), 1))
        self.leads(plan, [(2, 0), (0, 0), (0, 0)], ("open", 1, 0, (), (), 1))

    def test_done_and_stopped_stay_so(self):
        for state in (("done", ()), ("done", (0,)), ("done", (1,)), ("stopped",)):
            for letter in letters_of(2):
                self.assertEqual(state, step(R, state, letter))
        self.leads(P, [(2,), (2,), (1,), (1,), (1,)], ("stopped",))
        self.leads(P, [(1,), (1,), (1,), (2,), (2,), (2,)], ("done", ()))

    def test_step_from_states_that_no_history_leads_to(self):
        # The guard of P's stage 1 looks at two letters; with region 0 dropped it is passed over.
        self.assertEqual(("stopped",), step(P, ("open", 1, 0, ((2,),), (1,), 0), (2,)))
        self.assertEqual(("done", (0,)), step(P, ("open", 1, 0, ((2,),), (0,), 0), (2,)))
        self.assertEqual(("open", 0, 0, (), (1,), 0), step(P, ("open", 0, 1, ((0,),), (1,), 1), (2,)))
        self.assertEqual(("open", 1, 0, (), (0,), 1), step(P, ("open", 0, 1, ((2,),), (0,), 1), (2,)))


class AgainstTheModel(Case):
    def test_all_short_histories(self):
        for plan in (P, R, FULL, *some_plans(2, 150)):
            number = len(plan[1])
            for letters in histories_of(number, 5 if number == 1 else 3):
                self.assertEqual(model_after(plan, letters).state(), state_after(plan, letters))

    def test_long_histories(self):
        for seed, plan in enumerate((P, R, FULL, GREATEST, *some_plans(3, 100))):
            letters = letters_of(len(plan[1]))
            model = Model(plan)
            state = begin(plan)
            history = []
            for period in range(60):
                letter = letters[(seed * 7 + period * period * 5 + period) % len(letters)]
                history.append(letter)
                model.feed(letter)
                state = step(plan, state, letter)
                self.assertEqual(model.state(), state)
                self.assertEqual(model.counts(), counts(plan, state))
                self.assertIs(True, is_state(plan, state))
            self.assertEqual(state, state_after(plan, history))

    def test_two_hundred_periods(self):
        letters = [(0, 0, 0), (1, 1, 1)] * 100
        self.assertEqual(model_after(GREATEST, letters).state(), state_after(GREATEST, letters))


class Counts(Case):
    def test_words(self):
        self.assertEqual([90, 0], counts(P, ("open", 0, 1, ((2,),), (), 0)))
        self.assertEqual([900, 5], counts(P, ("open", 1, 0, (), (), 1)))
        self.assertEqual([900, 5], counts(P, ("done", ())))
        self.assertEqual([0, 5], counts(P, ("done", (0,))))
        self.assertEqual([900, 0], counts(P, ("done", (1,))))
        self.assertEqual([0, 0], counts(P, ("stopped",)))
        self.assertEqual([0, 5], counts(P, ("open", 1, 0, (), (0,), 1)))

    def test_done_is_open_at_the_last_stage(self):
        plan = one_signal(((1000,), 1, (), ()), ((250,), 1, (), ()), ((125,), 1, (), ()))
        self.assertEqual([1], counts(plan, ("done", ())))
        self.assertEqual([2], counts(plan, ("open", 1, 0, (), (), 0)))

    def test_great_regions(self):
        self.assertEqual([0, BIG, 0, 0], counts(GREATEST, begin(GREATEST)))
        self.assertEqual([0, 0, 0, 0], counts(GREATEST, ("done", (1,))))

    def test_new_lists(self):
        self.gives_new_lists(counts, P, begin(P))
        self.gives_new_lists(counts, P, ("stopped",))
        self.gives_new_lists(counts, P, ("done", ()))


def open_states(plan, longest):
    """Return all open states of a plan with one signal, from the stays up to a length."""
    regions, signals, stages, tries = plan
    many = len(regions)
    drops = [tuple(at for at in range(many) if mask >> at & 1) for mask in range(2 ** many - 1)]
    found = set()
    for at, stage in enumerate(stages):
        for length in range(longest + 1):
            for stay in histories_of(len(signals), length):
                for dropped in drops:
                    for left in range(tries + 1):
                        found.add(("open", at, *stay_form(stage, stay), dropped, left))
    return found


class IsState(Case):
    def judged(self, plan, longest):
        """Each open form with near numbers is a state if and only if a stay makes it."""
        right = open_states(plan, longest)
        many = len(plan[0])
        tails = [tuple(stay) for length in range(longest + 1) for stay in histories_of(len(plan[1]), length)]
        for stage in range(-1, len(plan[2]) + 1):
            for age in range(-1, longest + 2):
                for tail in tails:
                    for dropped in ((), (0,), (1,), (many - 1,), (many,), tuple(range(many))):
                        for left in (-1, 0, plan[3], plan[3] + 1):
                            value = ("open", stage, age, tail, dropped, left)
                            self.assertIs(value in right, is_state(plan, value), value)
        for state in right:
            self.assertIs(True, is_state(plan, state))

    def test_ages_and_tails(self):
        for hold in (1, 2, 3, 4):
            for window in (0, 1, 2, 3):
                needs = ((0, 1, 1, window),) if window else ()
                self.judged(one_signal(((500,), hold, needs, ())), 3)

    def test_windows_of_guards(self):
        guard = ((0, 1, 1, 3), ("stop",))
        self.judged(one_signal(((500,), 2, ((0, 1, 1, 2),), (guard,)), tries=1), 3)
        self.judged(one_signal(((500,), 1, (), (guard, ((0, 1, 1, 1), ("stop",)))), tries=1), 3)

    def test_document_plans(self):
        self.judged(P, 3)

    def test_letters_of_two_signals(self):
        self.assertIs(True, is_state(R, ("open", 0, 1, ((0, 2),), (), 0)))
        self.assertIs(False, is_state(R, ("open", 0, 1, ((0,),), (), 0)))
        self.assertIs(False, is_state(R, ("open", 0, 1, ((0, 2, 1),), (), 0)))

    def test_states_that_no_history_leads_to(self):
        for state in (
            ("open", 0, 1, ((2,),), (), 1), ("open", 1, 0, ((2,),), (), 0), ("open", 0, 1, ((0,),), (1,), 0),
            ("done", (0,)), ("done", (1,)), ("open", 1, 0, (), (0,), 1),
        ):
            with self.subTest(state):
                self.assertIs(True, is_state(P, state))

    def test_done_and_stopped(self):
        self.assertIs(True, is_state(P, ("done", ())))
        self.assertIs(True, is_state(P, ("stopped",)))
        for value in (
            ("done",), ("done", (), ()), ("done", (0, 1)), ("done", (1, 0)), ("done", (0, 0)), ("done", (2,)),
            ("done", (-1,)), ("done", [0]), ("done", []), ("done", None), ("done", 0), ("done", (True,)),
            ("done", (None,)), ("done", ((0,),)), ("done", "0"), ["done", ()],
            ("stopped", ()), ("stopped", 0), ["stopped"], "stopped", ("open",), ("Stopped",), ("stop",), (("stopped",),),
            ("done", 0, 0, (), (), 1), ("stopped", 0, 0, (), (), 1), ("", ()), (None,), (0, ()), (b"stopped",),
        ):
            with self.subTest(value):
                self.assertIs(False, is_state(P, value))

    def test_all_regions_but_one_may_be_dropped(self):
        self.assertIs(True, is_state(GREATEST, ("done", (0, 1, 3))))
        self.assertIs(True, is_state(GREATEST, ("open", 5, 0, (), (1, 2, 3), 3)))
        for dropped in ((0, 1, 2, 3), (0, 2, 1), (0, 0), (1, 1, 2), (0, 4), (-1, 0), (2, 1)):
            self.assertIs(False, is_state(GREATEST, ("done", dropped)))
            self.assertIs(False, is_state(GREATEST, ("open", 5, 0, (), dropped, 3)))
        self.assertIs(False, is_state(one_signal(((0,), 1, (), ())), ("done", (0,))))

    def test_any_other_value(self):
        right = ("open", 0, 1, ((1,),), (), 1)
        self.assertIs(True, is_state(P, right))
        for value in (*NOT_INTEGERS, list(right), right[:5], (*right, 0), ((), *right[1:]), P, "open"):
            with self.subTest(value):
                self.assertIs(False, is_state(P, value))
        for at in range(6):
            for wrong in NOT_INTEGERS:
                if at == 4 and wrong in ((), (1,)):
                    continue
                value = changed(right, (at,), wrong)
                with self.subTest(value):
                    self.assertIs(False, is_state(P, value))
        for value in (
            ("open", 0, 1, [(1,)], (), 1), ("open", 0, 1, ([1],), (), 1), ("open", 0, 1, (1,), (), 1),
            ("open", 0, 1, ((3,),), (), 1), ("open", 0, 1, ((-1,),), (), 1), ("open", 0, 1, ((True,),), (), 1),
            ("open", 0, 1, ((None,),), (), 1), ("open", 0, 1, ((1,),), [], 1), ("open", 0, 1, ((1,),), (True,), 1),
            ("open", 0, 1, ((1,), (1,)), (), 1), ("open", 0, 1, (), (), 1), ("open", 0, 0, ((1,),), (), 1),
            ("open", 0, 2, ((1,),), (), 1), ("open", 0, BIG, ((1,),), (), 1), ("open", BIG, 0, (), (), 1),
        ):
            with self.subTest(value):
                self.assertIs(False, is_state(P, value))


def reached(plan, most):
    """Return a dict of the states behind all histories of so many periods, each with the first of these."""
    found = {}
    for periods in range(most + 1):
        for letters in histories_of(len(plan[1]), periods):
            found.setdefault(model_after(plan, letters).state(), letters)
    return found


class States(Case):
    def test_document_plan(self):
        self.assertEqual([
            ("done", ()),
            ("open", 0, 0, (), (), 0), ("open", 0, 0, (), (), 1),
            ("open", 0, 1, ((0,),), (), 0), ("open", 0, 1, ((0,),), (), 1),
            ("open", 0, 1, ((1,),), (), 0), ("open", 0, 1, ((1,),), (), 1),
            ("open", 1, 0, (), (), 0), ("open", 1, 0, (), (), 1),
            ("stopped",),
        ], states(P))

    def test_document_plan_histories(self):
        for state, letters in (
            (("done", ()), [(1,), (1,), (0,)]), (("open", 0, 0, (), (), 0), [(2,)]), (("open", 0, 0, (), (), 1), []),
            (("open", 0, 1, ((0,),), (), 0), [(2,), (0,)]), (("open", 0, 1, ((1,),), (), 1), [(1,)]),
            (("open", 1, 0, (), (), 0), [(2,), (1,), (1,)]), (("stopped",), [(2,), (2,)]),
            (("open", 0, 1, ((2,),), (), 1), None), (("done", (0,)), None), (("open", 1, 0, ((2,),), (), 1), None),
        ):
            with self.subTest(state):
                self.assertEqual(letters, history_to(P, state))

    def test_against_all_short_histories(self):
        tested = 0
        for plan in (P, *some_plans(4, 120, signals=1), *some_plans(5, 40)):
            most = 6 if len(plan[1]) == 1 else 3
            found = reached(plan, most)
            if len(found) > 40 or any(len(letters) == most for letters in found.values()):
                continue
            tested += 1
            with self.subTest(plan):
                self.assertEqual(sorted(found), states(plan))
                for state, letters in found.items():
                    self.assertEqual(letters, history_to(plan, state))
        self.assertGreater(tested, 60)

    def test_document_plan_with_two_signals(self):
        listed = states(R)
        self.assertEqual(sorted(set(listed)), listed)
        self.assertIn(begin(R), listed)
        for state in listed:
            letters = history_to(R, state)
            self.assertEqual(state, state_after(R, letters))
            for letter in letters_of(2):
                self.assertIn(step(R, state, letter), listed)

    def test_about_a_hundred_states(self):
        stage = ((500,), 1, ((0, 1, 4, 4),), ())
        plan = one_signal(stage, stage)
        listed = states(plan)
        self.assertEqual(1 + 2 * (1 + 3 + 9 + 27), len(listed))
        self.assertEqual([(1,)] * 4, history_to(plan, ("open", 1, 0, (), (), 0)))
        self.assertEqual([(1,)] * 4 + [(0,), (2,), (1,)], history_to(plan, ("open", 1, 0, ((0,), (2,), (1,)), (), 0)))

    def test_new_lists(self):
        self.gives_new_lists(states, P)
        self.gives_new_lists(history_to, P, ("stopped",))
        self.gives_new_lists(history_to, P, begin(P))


class HasVersion(Case):
    def test_all_users(self):
        for state in (*states(P), ("done", (0,)), ("open", 1, 0, (), (1,), 0)):
            due = counts(P, state)
            for region, (size, factor, shift, _) in enumerate(P[0]):
                for user in (*range(20), size - 2, size - 1):
                    if user < size:
                        rank = (factor * user + shift) % size
                        self.assertIs(rank < due[region], has_version(P, state, region, user))

    def test_great_region(self):
        self.assertIs(True, has_version(GREATEST, begin(GREATEST), 1, BIG - 1))
        self.assertIs(False, has_version(GREATEST, begin(GREATEST), 0, BIG - 1))
        self.assertIs(False, has_version(GREATEST, ("stopped",), 1, 0))


class WrongArguments(Case):
    def test_plan(self):
        state = begin(P)
        for wrong in NOT_PLANS:
            with self.subTest(wrong):
                self.fails(NotAPlan, begin, wrong)
                self.fails(NotAPlan, step, wrong, state, (1,))
                self.fails(NotAPlan, state_after, wrong, [])
                self.fails(NotAPlan, counts, wrong, state)
                self.fails(NotAPlan, is_state, wrong, state)
                self.fails(NotAPlan, states, wrong)
                self.fails(NotAPlan, history_to, wrong, state)
                self.fails(NotAPlan, has_version, wrong, state, 0, 0)

    def test_state(self):
        for wrong in (
            *NOT_INTEGERS, list(begin(R)), ("open", 0, 0, (), (), 1), ("open", 2, 0, (), (), 0), ("open", 0, 1, (), (), 0),
            ("open", 0, 1, ((1,),), (), 0), ("open", 0, 0, (), (0, 1), 0), ("done",), ("done", (0, 1)), ("stopped", 0),
            ("open", 0, 0, (), (), False), ("open", False, 0, (), (), 0), ("open", 0, False, (), (), 0),
        ):
            with self.subTest(wrong):
                self.fails(InvalidState, step, R, wrong, (1, 1))
                self.fails(InvalidState, counts, R, wrong)
                self.fails(InvalidState, history_to, R, wrong)
                self.fails(InvalidState, has_version, R, wrong, 0, 0)

    def test_letter(self):
        for wrong in NOT_LETTERS:
            for state in (begin(R), ("done", ()), ("stopped",)):
                with self.subTest(wrong=wrong, state=state):
                    self.fails(InvalidLetter, step, R, state, wrong)

    def test_letters(self):
        for wrong in (*(value for value in NOT_INTEGERS if value != []), ((1, 1),), {(1, 1): 1}, "11", (1, 1)):
            with self.subTest(wrong):
                self.fails(InvalidLetters, state_after, R, wrong)
        for wrong in NOT_LETTERS:
            with self.subTest(wrong):
                self.fails(InvalidLetters, state_after, R, [wrong])
                self.fails(InvalidLetters, state_after, R, [wrong, (1, 1)])
                self.fails(InvalidLetters, state_after, R, [(1, 1), wrong, (1, 1)])
                self.fails(InvalidLetters, state_after, R, [(1, 1)] * 20 + [wrong])

    def test_region_and_user(self):
        for wrong in (*NOT_INTEGERS, -1, 2, BIG):
            with self.subTest(wrong):
                self.fails(NoRegion, has_version, R, begin(R), wrong, 0)
        for wrong in (*NOT_INTEGERS, -1, 50, 99, BIG):
            with self.subTest(wrong):
                self.fails(InvalidUser, has_version, R, begin(R), 1, wrong)
        self.fails(InvalidUser, has_version, R, ("stopped",), 0, 100)

    def test_first_wrong_argument_tells(self):
        self.fails(NotAPlan, step, None, None, None)
        self.fails(InvalidState, step, P, None, None)
        self.fails(NotAPlan, state_after, None, None)
        self.fails(NotAPlan, counts, None, None)
        self.fails(NotAPlan, is_state, None, None)
        self.fails(NotAPlan, history_to, None, None)
        self.fails(NotAPlan, has_version, None, None, None, None)
        self.fails(InvalidState, has_version, P, None, None, None)
        self.fails(NoRegion, has_version, P, begin(P), None, None)
        self.fails(NoRegion, has_version, P, begin(P), 2, -1)

    def test_arguments_do_not_change(self):
        letters = [(1, 2), (0, 2), (2, 0)]
        kept = copy.deepcopy(letters)
        before = state_after(R, letters)
        self.assertEqual(kept, letters)
        letters.append((2, 2))
        self.assertEqual(before, state_after(R, kept))


if __name__ == "__main__":
    unittest.main()
