"""Points [31] and [32]: plans that are changed while they run."""

import copy
import random
import unittest

from stagedplans.errors import InvalidLetters, NotAPlan, OtherShape
from stagedplans.harm import harm_of
from stagedplans.moves import change_history, harm_with_change, moved_state, noticed_by, stay_after, worst_change
from stagedplans.plans import is_plan
from stagedplans.states import begin, counts, is_state, state_after, states, step
from stagedplans.worst import greatest_harm, harm_history
from tests.helper import BIG, Case, Model, NOT_INTEGERS, NOT_PLANS, P, R
from tests.helper import at_once, changed, histories_of, letters_of, model_after, some_plan, some_plans, some_stage
from tests.test_states import NOT_LETTERS, one_signal, two_regions
from tests.test_worst import ENDLESS

# The plan q of the document's examples.
Q = changed(P, (2, 1), ((500, 500), 1, (), ()))
GOOD, BAD = (0, 1, 1, 1), (0, 2, 1, 1)
STOP = ("stop",)
WITH_LETTERS = (moved_state, noticed_by)
WITHOUT_LETTERS = (worst_change, change_history)


def moved_model(model, new):
    """Return a model of a new plan in the place of another one: point [31] word by word."""
    other = Model(new)
    other.dropped = set(model.dropped)
    other.word = model.word
    if model.word == "open":
        other.stage = model.stage
        other.stay = list(model.stay)
        other.left = min(model.left, new[3])
        if model.stage >= len(new[2]):
            other.word = "done"
    return other


def fed(model, letters):
    """Feed letters to a model, and return their harm."""
    harm = 0
    for letter in letters:
        harm += model.harm(letter)
        model.feed(letter)
    return harm


def slow_harm(old, new, letters, later):
    model = Model(old)
    harm = fed(model, letters)
    return harm + fed(moved_model(model, new), later)


def copy_of(model):
    other = copy.copy(model)
    other.dropped = set(model.dropped)
    return other


def slow_best(old, new, most):
    """Return the greatest harm with at most so many periods, and the first letters and later letters with it."""
    best = (0, 0, [], 0)
    rows = [([], Model(old), 0, [(moved_model(Model(old), new), 0)])]
    for periods in range(1, most + 1):
        longer = []
        for letters, model, harm, changes in rows:
            for letter in letters_of(len(old[1])):
                behind = copy_of(model)
                more = harm + fed(behind, [letter])
                ends = [(copy_of(moved), sofar) for moved, sofar in changes]
                ends = [(moved, sofar + fed(moved, [letter])) for moved, sofar in ends]
                ends.append((moved_model(behind, new), more))
                longer.append((letters + [letter], behind, more, ends))
        rows = longer
        for letters, _, _, changes in rows:
            for at, (_, harm) in enumerate(changes):
                best = min(best, (-harm, periods, letters, at))
    harm, _, letters, at = best
    return -harm, (letters[:at], letters[at:])


def key_of(model, most):
    """Return what tells all that can follow, if no hold and no window is above most."""
    if model.word != "open":
        return (model.word, tuple(sorted(model.dropped)))
    stay = model.stay[-most:]
    return (model.stage, min(len(model.stay), most), tuple(stay), tuple(sorted(model.dropped)), model.left)


def reach_of(old, new):
    """Return the greatest of all holds and windows."""
    return max(part for plan in (old, new) for stage in plan[2] for part in (
        stage[1], *[need[3] for need in stage[2]], *[guard[0][3] for guard in stage[3]],
    ))


def slow_worst(old, new):
    """Return the greatest harm with one change, or None: longer and longer walks till none gets better."""
    most = reach_of(old, new)
    links = {}
    first = ("old", key_of(Model(old), most))
    waiting = [(first, Model(old))]
    while waiting:
        key, model = waiting.pop()
        if key in links:
            continue
        links[key] = []
        if key[0] == "old":
            moved = moved_model(model, new)
            links[key].append((("new", key_of(moved, most)), 0))
            waiting.append((links[key][0][0], moved))
        for letter in letters_of(len(old[1])):
            behind = copy_of(model)
            harm = fed(behind, [letter])
            links[key].append(((key[0], key_of(behind, most)), harm))
            waiting.append((links[key][-1][0], behind))
    worth = {key: 0 for key in links}
    for _ in range(len(links) + 1):
        better = False
        for key, rows in links.items():
            most = max([0] + [harm + worth[end] for end, harm in rows])
            better = better or most > worth[key]
            worth[key] = most
        if not better:
            return worth[first]
    return None


def slow_notice(old, new, letters, most):
    """Return the first later letters, of at most so many periods, behind which the outputs differ."""
    first = model_after(old, letters)
    for periods in range(most + 1):
        for later in histories_of(len(old[1]), periods):
            one, other = copy_of(first), moved_model(first, new)
            fed(one, later)
            fed(other, later)
            if (one.word, one.counts()) != (other.word, other.counts()):
                return later
    return None


def pairs_of_plans(seed, many, regions=2, signals=1, least=1):
    """Return pairs of plans with the same regions and signals, of a few states each."""
    source = random.Random(seed)
    found = []
    while len(found) < many:
        one = some_plan(source, source.randint(1, regions), source.randint(least, signals))
        stages = tuple(some_stage(source, at, len(one[0]), len(one[1])) for at in range(source.randint(1, 3)))
        if source.randrange(3) == 0:
            # A plan like the first one, with another hold somewhere.
            at = source.randrange(len(one[2]))
            stages = changed(one[2], (at, 1), source.randint(1, 3))
        other = (one[0], one[1], stages, source.randint(0, 2))
        if len(states(one)) <= 15 and len(states(other)) <= 15:
            found.append((one, other))
    return found


class Examples(Case):
    def test_document(self):
        self.assertEqual([(0,), (1,)], stay_after(P, [(0,), (1,)]))
        self.assertEqual(("open", 1, 0, (), (), 1), moved_state(P, Q, [(1,), (1,)]))
        self.assertEqual([(1,), (1,)], noticed_by(P, Q, [(0,)]))
        self.assertIsNone(noticed_by(P, Q, [(2,), (2,)]))
        self.assertEqual([540, 990], [harm_with_change(P, Q, [(2,)], [(1,), (1,), (2,)]), worst_change(Q, P)])

    def test_arguments_by_name(self):
        self.assertEqual([(1,)], stay_after(letters=[(1,)], plan=P))
        self.assertEqual(("open", 1, 0, (), (), 1), moved_state(letters=[(1,), (1,)], new=Q, old=P))
        self.assertEqual(540, harm_with_change(later=[(1,), (1,), (2,)], letters=[(2,)], new=Q, old=P))
        self.assertEqual([(1,), (1,)], noticed_by(letters=[(0,)], new=Q, old=P))
        self.assertEqual(990, worst_change(new=P, old=Q))
        self.assertEqual(([], [(2,), (1,), (1,), (2,)]), change_history(new=P, old=Q))


class Stays(Case):
    def test_stays(self):
        for letters, due in (
            ([], []), ([(0,)], [(0,)]), ([(2,)], []), ([(0,), (2,)], []), ([(0,), (2,), (1,)], [(1,)]), ([(1,), (1,)], []),
            ([(1,), (1,), (2,)], None), ([(2,), (2,)], None), ([(2,), (2,), (1,)], None), ([(0,)] * 200, [(0,)] * 200),
        ):
            with self.subTest(letters):
                self.assertEqual(due, stay_after(P, letters))

    def test_dropped_regions_do_not_end_a_stay(self):
        self.assertEqual([(1, 2)], stay_after(R, [(1, 2)]))
        self.assertEqual([(0, 0), (0, 2), (0, 1)], stay_after(R, [(0, 0), (0, 2), (0, 1)]))
        self.assertIsNone(stay_after(R, [(1, 2), (0, 2), (2, 0)]))

    def test_stage_that_begins_anew(self):
        # With hold 1 and no windows the state looks as ahead of the letter, but for the tries.
        plan = one_signal(((500,), 1, (GOOD,), ((BAD, ("back", 0)),)), tries=3)
        self.assertEqual([(0,)], stay_after(plan, [(0,), (2,), (0,)]))
        self.assertEqual([], stay_after(plan, [(0,), (0,), (2,)]))
        self.assertEqual([(0,), (0,)], stay_after(plan, [(2,), (2,), (0,), (0,)]))
        self.assertIsNone(stay_after(plan, [(2,)] * 4))

    def test_against_the_model(self):
        closed = 0
        for plan in some_plans(100, 40):
            for letters in histories_of(len(plan[1]), 3 if len(plan[1]) == 2 else 5)[::7]:
                model = model_after(plan, letters)
                closed += model.word != "open"
                self.assertEqual(model.stay if model.word == "open" else None, stay_after(plan, letters))
        self.assertGreater(closed, 100)


class MovedStates(Case):
    def moves(self, old, new, letters, due):
        with self.subTest(old=old, new=new, letters=letters):
            self.assertEqual(due, moved_state(old, new, letters))
            self.assertIs(True, is_state(new, due))

    def test_no_letters(self):
        self.moves(P, Q, [], begin(Q))
        self.moves(P, changed(P, (3,), 0), [], ("open", 0, 0, (), (), 0))
        self.moves(changed(P, (3,), 0), P, [], ("open", 0, 0, (), (), 0))

    def test_tries(self):
        back = [(2,)]
        for tries, new, due in ((1, 5, 0), (5, 1, 1), (5, 9, 4), (5, 4, 4), (5, 0, 0), (BIG, BIG, BIG - 1)):
            self.moves(changed(P, (3,), tries), changed(Q, (3,), new), back, ("open", 0, 0, (), (), due))

    def test_holds(self):
        old = one_signal(((500,), 3, (GOOD,), ()))
        for hold, ages in ((1, (0, 0, 0, 0)), (2, (0, 1, 1, 1)), (3, (0, 1, 2, 2)), (5, (0, 1, 2, 3)), (BIG, (0, 1, 2, 3))):
            for periods, age in enumerate(ages):
                self.moves(old, changed(old, (2, 0, 1), hold), [(0,)] * periods, ("open", 0, age, (), (), 0))
        # The stay is as long as it was, though the old state does not tell it any more.
        self.moves(old, changed(old, (2, 0, 1), 100), [(0,)] * 60, ("open", 0, 60, (), (), 0))

    def test_windows(self):
        old = one_signal(((500,), 1, ((0, 1, 2, 2),), ()))
        letters = [(2,), (1,), (0,), (2,), (0,)]
        for window, kept in ((1, 0), (2, 1), (3, 2), (4, 3), (6, 5), (7, 5), (BIG, 5)):
            new = changed(old, (2, 0, 2, 0), (0, 1, 1, window))
            self.moves(old, new, letters, ("open", 0, 0, tuple(letters[5 - kept:]), (), 0))
            new = changed(changed(new, (2, 0, 2), ()), (2, 0, 3), (((0, 2, 1, window), STOP),))
            self.moves(old, new, letters, ("open", 0, 0, tuple(letters[5 - kept:]), (), 0))
        self.moves(old, one_signal(((500,), 1, (), ())), letters, ("open", 0, 0, (), (), 0))

    def test_stage_that_the_new_plan_does_not_have(self):
        new = changed(P, (2,), P[2][:1])
        self.moves(P, new, [(1,)], ("open", 0, 1, ((1,),), (), 1))
        self.moves(P, new, [(1,), (1,)], ("done", ()))
        old = two_regions(((500, 500), 1, (), ()), ((500, 500), 4, (), (((1, 2, 1, 1), ("drop", 1)),)))
        new = two_regions(((500, 500), 1, (), ()))
        self.moves(old, new, [(0, 0), (0, 2), (1, 1)], ("done", (1,)))
        self.moves(old, new, [(0, 0), (0, 1)], ("done", ()))

    def test_dropped_regions(self):
        new = changed(R, (2, 0), ((0, 0), 4, (), ()))
        self.moves(R, new, [(1, 2)], ("open", 0, 1, (), (1,), 0))
        self.moves(R, new, [(0, 2), (0, 2)], ("open", 0, 2, (), (1,), 0))

    def test_done_and_stopped(self):
        for new in (P, Q, changed(P, (2,), P[2][:1]), changed(P, (2,), P[2] * 2)):
            self.moves(P, new, [(1,), (1,), (0,)], ("done", ()))
            self.moves(P, new, [(1,), (1,), (0,), (2,)], ("done", ()))
            self.moves(P, new, [(2,), (2,)], ("stopped",))
        self.moves(R, R, [(1, 2), (0, 2), (2, 0)], ("done", (1,)))

    def test_same_plan(self):
        for plan in some_plans(101, 40):
            for letters in histories_of(len(plan[1]), 3)[::5]:
                self.assertEqual(state_after(plan, letters), moved_state(plan, plan, letters))

    def test_against_the_model(self):
        for old, new in pairs_of_plans(102, 60, signals=2):
            for letters in histories_of(len(old[1]), 5 if len(old[1]) == 1 else 3)[::4]:
                self.assertEqual(moved_model(model_after(old, letters), new).state(), moved_state(old, new, letters))


class Harm(Case):
    def test_no_change_in_time(self):
        letters = [(2,), (1,), (1,), (2,)]
        for at in range(5):
            self.assertEqual(990, harm_with_change(P, P, letters[:at], letters[at:]))
        self.assertEqual([990, 540], [harm_with_change(P, Q, letters, []), harm_with_change(P, Q, [], letters)])
        self.assertEqual(0, harm_with_change(P, Q, [], []))

    def test_against_the_model(self):
        source = random.Random(103)
        for old, new in pairs_of_plans(104, 80, signals=2):
            letters = letters_of(len(old[1]))
            for _ in range(12):
                one = [source.choice(letters) for _ in range(source.randrange(6))]
                later = [source.choice(letters) for _ in range(source.randrange(6))]
                self.assertEqual(slow_harm(old, new, one, later), harm_with_change(old, new, one, later))
                self.assertEqual(harm_of(old, one + later), harm_with_change(old, old, one, later))

    def test_limits(self):
        with at_once(10):
            for _ in range(20):
                self.assertEqual(200 * 5, harm_with_change(ENDLESS, changed(ENDLESS, (2, 0, 2), ()), [(2,)] * 200, []))
                # Without the need the stage ends at once.
                self.assertEqual(201 * 5, harm_with_change(ENDLESS, changed(ENDLESS, (2, 0, 2), ()), [(2,)] * 200, [(2,)] * 200))


class Notice(Case):
    def test_at_once(self):
        self.assertEqual([], noticed_by(P, Q, [(1,), (1,)]))
        self.assertEqual([], noticed_by(P, changed(P, (2, 0, 0, 1), 100), []))
        self.assertEqual([], noticed_by(P, changed(P, (2,), P[2][:1]), [(1,), (1,)]))

    def test_late(self):
        slow = changed(P, (2, 0, 1), 4)
        self.assertEqual([(1,), (1,)], noticed_by(P, slow, []))
        self.assertEqual([(1,), (1,)], noticed_by(P, slow, [(0,)]))
        # The stay has the four letters, so the next good one is the second one of two for both.
        self.assertEqual([(2,), (1,), (1,)], noticed_by(P, slow, [(0,), (0,), (0,), (1,)]))
        self.assertEqual([(0,), (1,), (1,)], noticed_by(slow, changed(slow, (2, 0, 1), 3), []))

    def test_never(self):
        for letters in ([], [(0,)], [(1,), (1,)], [(2,), (2,)]):
            self.assertIsNone(noticed_by(P, P, letters))
            # The guard of the last stage never acts.
            self.assertIsNone(noticed_by(P, changed(P, (2, 1, 3), ()), letters))
        self.assertIsNone(noticed_by(P, Q, [(2,), (2,)]))
        # The new plan has no more tries than the old one has left.
        self.assertIsNone(noticed_by(P, changed(P, (3,), 9), []))
        self.assertIsNone(noticed_by(P, changed(P, (3,), 0), [(2,)]))
        self.assertEqual([(2,)], noticed_by(P, changed(P, (3,), 0), []))

    def test_done(self):
        self.assertEqual([], noticed_by(P, Q, [(1,), (1,), (0,)]))
        self.assertIsNone(noticed_by(P, changed(Q, (2, 1, 0), (1000, 500)), [(1,), (1,), (0,)]))

    def test_against_all_short_lists(self):
        found = {}
        for old, new in pairs_of_plans(105, 60) + pairs_of_plans(106, 20, signals=2, least=2):
            most = 4 if len(old[1]) == 1 else 2
            for letters in histories_of(len(old[1]), 2)[::4 if len(old[1]) == 1 else 16] + [[]]:
                due = slow_notice(old, new, letters, most)
                later = noticed_by(old, new, letters)
                length = None if due is None else len(due)
                found[length] = found.get(length, 0) + 1
                with self.subTest(old=old, new=new, letters=letters):
                    if due is not None or later is None:
                        self.assertEqual(due, later)
                        continue
                    self.assertGreater(len(later), most)
                    one, other = state_after(old, letters + later), moved_state(old, new, letters)
                    for letter in later:
                        other = step(new, other, letter)
                    self.assertNotEqual((one[0], counts(old, one)), (other[0], counts(new, other)))
        self.assertGreater(min(found[length] for length in (None, 0, 1, 2)), 4)
        self.assertIn(3, found)

    def test_never_against_slow_walks(self):
        # Where nothing is noticed, no pair of states behind any later letters has other outputs.
        never = 0
        for old, new in pairs_of_plans(107, 80, signals=2):
            for letters in histories_of(len(old[1]), 2)[::4]:
                if noticed_by(old, new, letters) is None:
                    never += 1
                    met, waiting = set(), [(state_after(old, letters), moved_state(old, new, letters))]
                    while waiting:
                        pair = waiting.pop()
                        if pair not in met:
                            met.add(pair)
                            self.assertEqual((pair[0][0], counts(old, pair[0])), (pair[1][0], counts(new, pair[1])))
                            waiting += [(step(old, pair[0], letter), step(new, pair[1], letter)) for letter in letters_of(len(old[1]))]
        self.assertGreater(never, 30)


class WorstChange(Case):
    def test_same_plan(self):
        for plan in (P, Q, *[plan for plan in some_plans(108, 40, regions=2) if len(states(plan)) <= 30]):
            self.assertEqual(greatest_harm(plan), worst_change(plan, plan))
            history = harm_history(plan)
            # Of the lists ahead of the change the shortest one is taken.
            self.assertEqual(None if history is None else ([], history), change_history(plan, plan))

    def test_no_upper_bound(self):
        bounded = changed(ENDLESS, (2, 0, 2), ())
        for old, new in ((ENDLESS, ENDLESS), (ENDLESS, bounded), (bounded, ENDLESS)):
            self.assertIsNone(worst_change(old, new))
            self.assertIsNone(change_history(old, new))
        self.assertEqual([5, ([], [(2,)])], [worst_change(bounded, bounded), change_history(bounded, bounded)])

    def test_no_upper_bound_only_behind_a_change(self):
        # The new plan keeps a stage for ever that the old one passes, but begins with another one.
        old = one_signal(((500,), 1, (), ()), ((500,), 1, (), ()))
        new = one_signal(((500,), 1, (), (((0, 0, 1, 1), STOP), (GOOD, STOP), (BAD, STOP))), ((500,), 1, (GOOD,), ()))
        self.assertEqual([8, 4], [greatest_harm(old), greatest_harm(new)])
        self.assertIsNone(worst_change(old, new))
        self.assertIsNone(change_history(old, new))
        self.assertEqual([8, ([], [(2,), (2,)])], [worst_change(new, old), change_history(new, old)])

    def test_more_harm_than_with_either_plan(self):
        # The old plan does its harm in the first stage, and the new one in the second stage.
        old = one_signal(((1000,), 2, (), ()), ((0,), 2, (), ()))
        new = one_signal(((0,), 2, (), ()), ((1000,), 2, (), ()))
        self.assertEqual([16, 16], [greatest_harm(old), greatest_harm(new)])
        self.assertEqual(32, worst_change(old, new))
        self.assertEqual(([(2,), (2,)], [(2,), (2,)]), change_history(old, new))
        self.assertEqual(16, worst_change(new, old))
        self.assertEqual(([], [(2,), (2,)]), change_history(new, old))

    def test_longer_stay_by_the_new_plan(self):
        old = one_signal(((500,), 2, (), ()))
        new = one_signal(((500,), 5, (), ()))
        self.assertEqual([20, 20], [worst_change(old, new), worst_change(new, old)])
        self.assertEqual(([], [(2,)] * 5), change_history(old, new))
        # The new plan would end it sooner, so it comes at the end only.
        self.assertEqual(([(2,)] * 4, [(2,)]), change_history(new, old))

    def test_shortest_letters_ahead_of_the_change(self):
        # The new plan begins with a share of 0, so the change comes behind two periods, not later.
        old = one_signal(((500,), 2, (), ()), ((500,), 2, (), ()))
        new = one_signal(((0,), 2, (), ()), ((500,), 2, (), ()))
        self.assertEqual(([(2,), (2,)], [(2,), (2,)]), change_history(old, new))

    def test_fewest_periods_ahead_of_the_least_letters(self):
        # Behind a good letter the new plan does as much harm in one period as behind two others.
        old = one_signal(((0,), 1, (GOOD,), ((((0, 0, 2, 2), ("back", 0))),)), ((0,), 2, (), ()), tries=1)
        new = one_signal(((0,), 1, (GOOD,), ((((0, 0, 2, 2), ("back", 0))),)), ((500,), 1, (), ()), tries=1)
        self.assertEqual(4, worst_change(old, new))
        self.assertEqual(([], [(1,), (2,)]), change_history(old, new))

    def test_long_histories(self):
        # Each stage holds for three periods; three tries are taken, and then the change comes.
        guards = (((0, 2, 3, 3), ("back", 0)),)
        old = one_signal(((500,), 3, (), guards), ((0,), 2, (), ()), tries=3)
        new = one_signal(((0,), 1, (), ()), ((1000,), 3, (), ()), tries=3)
        # Three bad letters begin the stage anew; two with another one between them end it.
        due = 3 * 3 * 4 + 2 * 4 + 3 * 8
        self.assertEqual(due, slow_worst(old, new))
        self.assertEqual(due, worst_change(old, new))
        self.assertEqual(([(2,)] * 9 + [(0,), (2,), (2,)], [(2,)] * 3), change_history(old, new))

    def test_no_harm(self):
        free = changed(P, (1, 0, 3), 0)
        self.assertEqual([0, ([], [])], [worst_change(free, free), change_history(free, free)])
        nothing = one_signal(((0,), 2, (GOOD,), ()))
        self.assertEqual([0, ([], [])], [worst_change(nothing, nothing), change_history(nothing, nothing)])

    def test_value_of_the_history(self):
        for old, new in ((P, Q), (Q, P), (P, changed(P, (2,), P[2][:1])), (P, changed(P, (2,), P[2][::-1]))):
            if is_plan(new):
                letters, later = change_history(old, new)
                self.assertEqual(worst_change(old, new), harm_with_change(old, new, letters, later))

    def test_against_slow_searches(self):
        found = {"none": 0, "short": 0, "changed": 0}
        for old, new in pairs_of_plans(109, 160) + pairs_of_plans(110, 80, signals=2, least=2):
            most = 5 if len(old[1]) == 1 else 2
            if most == 2 and reach_of(old, new) > 2:
                continue
            due = slow_worst(old, new)
            told = change_history(old, new)
            with self.subTest(old=old, new=new):
                self.assertEqual(due, worst_change(old, new))
                if due is None:
                    found["none"] += 1
                    self.assertIsNone(told)
                    continue
                self.assertEqual(due, harm_with_change(old, new, *told))
                best, first = slow_best(old, new, most)
                if best == due:
                    found["short"] += 1
                    found["changed"] += first[0] != []
                    self.assertEqual(first, told)
                else:
                    self.assertGreater(len(told[0]) + len(told[1]), most)
        self.assertGreater(min(found.values()), 10)

    def test_limits(self):
        stage = ((700,), 2, ((0, 1, 2, 2),), (((1, 2, 2, 2), ("back", 0)),))
        old = (((BIG, 1, 0, 0),), ((0, 20, 5, BIG), (0, 20, 5, 1)), (stage,), 0)
        new = (*old[:2], (changed(stage, (1,), 3),), 0)
        other = (*old[:2], (((700,), 3, (), stage[3]), ((999,), 1, (), stage[3])), 0)
        self.assertTrue(all(len(states(plan)) <= 30 for plan in (old, new, other)))
        with at_once(10):
            for _ in range(10):
                for one, two in ((old, new), (new, old), (old, other), (other, new), (other, other)):
                    harm = worst_change(one, two)
                    told = change_history(one, two)
                    self.assertEqual(harm is None, told is None)
                    if told is not None:
                        self.assertEqual(harm, harm_with_change(one, two, *told))
                    noticed_by(one, two, [(0, 0)] * 200)


class NewLists(Case):
    def test_new_lists(self):
        for letters in ([], [(0,)], [(1,), (1,)], [(0,)] * 5):
            self.gives_new_lists(stay_after, P, letters)
        letters = [(0,)] * 5
        stay_after(P, letters).append("more")
        self.assertEqual([(0,)] * 5, letters)
        self.gives_new_lists(noticed_by, P, Q, [])
        self.gives_new_lists(noticed_by, P, Q, [(1,), (1,)])
        first, second = change_history(Q, P), change_history(Q, P)
        for one in first:
            for other in second:
                self.assertIsNot(one, other)
        first[0].append("more")
        first[1].append("more")
        self.assertEqual(second, change_history(Q, P))
        self.assertIsNot(second[0], second[1])

    def test_arguments_do_not_change(self):
        letters, later = [(2,), (1,)], [(1,), (2,)]
        stay_after(P, letters)
        moved_state(P, Q, letters)
        harm_with_change(P, Q, letters, later)
        noticed_by(P, Q, letters)
        self.assertEqual([[(2,), (1,)], [(1,), (2,)]], [letters, later])


class WrongArguments(Case):
    def test_plan(self):
        for wrong in NOT_PLANS:
            with self.subTest(wrong):
                self.fails(NotAPlan, stay_after, wrong, [])
                for one, other in ((wrong, P), (P, wrong), (wrong, wrong)):
                    for function in WITHOUT_LETTERS:
                        self.fails(NotAPlan, function, one, other)
                    for function in WITH_LETTERS:
                        self.fails(NotAPlan, function, one, other, [])
                    self.fails(NotAPlan, harm_with_change, one, other, [], [])

    def test_other_shape(self):
        three = changed((P[0] + P[0][:1], *P[1:]), (2,), tuple((stage[0] + (0,), *stage[1:]) for stage in P[2]))
        others = (
            R, ENDLESS, three, changed(P, (0, 1, 2), 1), changed(P, (0,), P[0][::-1]), changed(P, (1, 0, 1), 21),
            changed(P, (1, 0, 3), 2), changed(P, (1,), P[1] * 2), changed(P, (1, 0, 0), 1),
        )
        for other in others:
            self.assertIs(True, is_plan(other))
            for one, two in ((P, other), (other, P)):
                for function in WITHOUT_LETTERS:
                    self.fails(OtherShape, function, one, two)
                for function in WITH_LETTERS:
                    self.fails(OtherShape, function, one, two, [])
                    self.fails(OtherShape, function, one, two, None)
                self.fails(OtherShape, harm_with_change, one, two, [], [])
                self.fails(OtherShape, harm_with_change, one, two, None, None)

    def test_letters(self):
        wrongs = [value for value in NOT_INTEGERS if value != []] + [((1, 1),), "11", (1, 1)]
        wrongs += [[wrong] for wrong in NOT_LETTERS] + [[(1, 1), wrong, (1, 1)] for wrong in NOT_LETTERS]
        for wrong in wrongs:
            with self.subTest(wrong):
                self.fails(InvalidLetters, stay_after, R, wrong)
                for function in WITH_LETTERS:
                    self.fails(InvalidLetters, function, R, R, wrong)
                self.fails(InvalidLetters, harm_with_change, R, R, wrong, [])
                self.fails(InvalidLetters, harm_with_change, R, R, [], wrong)

    def test_first_wrong_argument_tells(self):
        self.fails(NotAPlan, stay_after, letters=None, plan=None)
        self.fails(InvalidLetters, stay_after, letters=None, plan=P)
        for function in WITH_LETTERS:
            self.fails(NotAPlan, function, None, None, None)
            self.fails(NotAPlan, function, P, None, None)
            self.fails(OtherShape, function, letters=None, new=R, old=P)
            self.fails(InvalidLetters, function, letters=None, new=Q, old=P)
        for function in WITHOUT_LETTERS:
            self.fails(NotAPlan, function, new=None, old=None)
            self.fails(NotAPlan, function, new=None, old=P)
            self.fails(NotAPlan, function, new=R, old=None)
        self.fails(NotAPlan, harm_with_change, None, R, None, None)
        self.fails(NotAPlan, harm_with_change, R, None, None, None)
        self.fails(OtherShape, harm_with_change, R, P, None, None)
        self.fails(InvalidLetters, harm_with_change, P, Q, None, [])
        self.fails(InvalidLetters, harm_with_change, later=None, letters=[], new=Q, old=P)


if __name__ == "__main__":
    unittest.main()
