"""Points [28] to [30]: parts that never count, shares, and joined plans."""

import random
import unittest

from stagedplans.errors import InvalidBehaviour, InvalidNumber, InvalidShare, NoPart, NoRegion, NoStage, NotAPlan, OtherShape
from stagedplans.harm import harm_of
from stagedplans.machines import are_alike, machine, unlike_history
from stagedplans.parts import greatest_share, idle_parts, joined, slim, unreached_stages, with_share, without_part
from stagedplans.plans import is_plan
from stagedplans.states import begin, counts, state_after, states, step
from stagedplans.worst import greatest_harm
from tests.helper import BIG, Case, NOT_INTEGERS, NOT_PLANS, P, R, at_once, changed, letters_of, some_plans
from tests.slow import some_behaviours
from tests.test_behaviours import WRONG_BEHAVIOURS
from tests.test_numbers import sixty_states
from tests.test_states import one_signal, two_regions
from tests.test_worst import ENDLESS, GOOD_ONLY

HUGE = 10 ** 100 - 1
GOOD, BAD = (0, 1, 1, 1), (0, 2, 1, 1)
STOP = ("stop",)


def slow_parts(plan):
    found = []
    for at, (_, _, needs, guards) in enumerate(plan[2]):
        found += [("need", at, k) for k in range(len(needs))] + [("guard", at, k) for k in range(len(guards))]
    return sorted(found)


def slow_without(plan, part):
    word, stage, at = part
    stages = [[shares, hold, list(needs), list(guards)] for shares, hold, needs, guards in plan[2]]
    del stages[stage][2 if word == "need" else 3][at]
    return (plan[0], plan[1], tuple((shares, hold, tuple(needs), tuple(guards)) for shares, hold, needs, guards in stages), plan[3])


def slow_alike(one, other):
    """Tell whether the outputs are equal behind all histories, by all pairs of states."""
    met = set()
    waiting = [(begin(one), begin(other))]
    while waiting:
        pair = waiting.pop()
        if pair in met:
            continue
        met.add(pair)
        if (pair[0][0], counts(one, pair[0])) != (pair[1][0], counts(other, pair[1])):
            return False
        waiting += [(step(one, pair[0], letter), step(other, pair[1], letter)) for letter in letters_of(len(one[1]))]
    return True


def slow_slim(plan):
    while True:
        idle = [part for part in slow_parts(plan) if slow_alike(plan, slow_without(plan, part))]
        if not idle:
            return plan
        plan = slow_without(plan, idle[0])


def small_plans(seed, many, signals=1):
    return [plan for plan in some_plans(seed, many, regions=2, signals=signals) if len(states(plan)) <= 30]


class Examples(Case):
    def test_document(self):
        self.assertEqual([("guard", 1, 0)], idle_parts(P))
        self.assertEqual([456, None], [greatest_share(P, 1, 0, 500), greatest_share(P, 1, 0, 89)])

    def test_arguments_by_name(self):
        self.assertEqual(without_part(P, ("need", 0, 0)), without_part(part=("need", 0, 0), plan=P))
        self.assertEqual([("guard", 1, 0)], idle_parts(plan=P))
        self.assertEqual([], unreached_stages(plan=P))
        self.assertEqual(slim(P), slim(plan=P))
        self.assertEqual(with_share(P, 1, 0, 7), with_share(share=7, region=0, stage=1, plan=P))
        self.assertEqual(456, greatest_share(most=500, region=0, stage=1, plan=P))
        self.assertEqual(1000, greatest_share(behaviour=GOOD_ONLY, most=0, region=0, stage=1, plan=P))
        self.assertEqual(joined(P, changed(P, (3,), 5)), joined(other=changed(P, (3,), 5), one=P))


class WithoutPart(Case):
    def test_parts(self):
        self.assertEqual(changed(P, (2, 0, 2), ()), without_part(P, ("need", 0, 0)))
        self.assertEqual(changed(P, (2, 0, 3), ()), without_part(P, ("guard", 0, 0)))
        self.assertEqual(changed(P, (2, 1, 3), ()), without_part(P, ("guard", 1, 0)))
        self.assertEqual(changed(R, (2, 0, 2), ((1, 1, 2, 2),)), without_part(R, ("need", 0, 0)))
        self.assertEqual(changed(R, (2, 0, 2), ((0, 1, 1, 2),)), without_part(R, ("need", 0, 1)))

    def test_one_of_equal_parts(self):
        plan = one_signal(((500,), 1, (GOOD, BAD, GOOD), ((BAD, STOP), (GOOD, ("back", 0)), (BAD, STOP))))
        self.assertEqual((GOOD, BAD), without_part(plan, ("need", 0, 2))[2][0][2])
        self.assertEqual((BAD, GOOD), without_part(plan, ("need", 0, 0))[2][0][2])
        self.assertEqual(((BAD, STOP), (BAD, STOP)), without_part(plan, ("guard", 0, 1))[2][0][3])

    def test_some_plans(self):
        for plan in some_plans(90, 40):
            for part in slow_parts(plan):
                self.assertEqual(slow_without(plan, part), without_part(plan, part))
                self.assertIs(True, is_plan(without_part(plan, part)))


class IdleParts(Case):
    def test_none(self):
        self.assertEqual([], idle_parts(ENDLESS))
        self.assertEqual(ENDLESS, slim(ENDLESS))

    def test_without_needs_and_guards(self):
        plan = one_signal(((500,), 2, (), ()), ((700,), 1, (), ()))
        self.assertEqual([], idle_parts(plan))
        self.assertEqual(plan, slim(plan))
        self.assertEqual([], unreached_stages(plan))

    def test_each_alone_but_not_together(self):
        # Each of two equal needs may be taken out, but not both.
        plan = one_signal(((500,), 1, (GOOD, GOOD), ()), regions=((10, 1, 0, 0),))
        self.assertEqual([("need", 0, 0), ("need", 0, 1)], idle_parts(plan))
        self.assertEqual(ENDLESS, slim(plan))
        # Each of two equal guards, too; a guard comes ahead of a need.
        plan = one_signal(((500,), 1, (GOOD, GOOD), ((BAD, STOP), (BAD, STOP))))
        self.assertEqual([("guard", 0, 0), ("guard", 0, 1), ("need", 0, 0), ("need", 0, 1)], idle_parts(plan))
        self.assertEqual(one_signal(((500,), 1, (GOOD,), ((BAD, STOP),))), slim(plan))

    def test_which_one_is_taken_first(self):
        # Both words of the guard do the same; the first one goes, so the second one is left.
        plan = one_signal(((500,), 2, (), ((BAD, ("back", 0)), ((0, 2, 1, 2), STOP))))
        self.assertEqual([("guard", 0, 0), ("guard", 0, 1)], idle_parts(plan))
        self.assertEqual(((0, 2, 1, 2), STOP), slim(plan)[2][0][3][0])
        self.assertEqual(1, len(slim(plan)[2][0][3]))

    def test_need_that_follows_from_another_one(self):
        # Where the last letter is good, one of the last two is; the other way around it is not so.
        plan = one_signal(((500,), 2, (GOOD, (0, 1, 1, 2)), ()))
        self.assertEqual([("need", 0, 1)], idle_parts(plan))
        self.assertEqual(one_signal(((500,), 2, (GOOD,), ())), slim(plan))
        # But the first good letter comes with both at once.
        self.assertEqual([("need", 0, 0), ("need", 0, 1)], idle_parts(changed(plan, (2, 0, 1), 1)))
        self.assertEqual(one_signal(((500,), 1, ((0, 1, 1, 2),), ())), slim(changed(plan, (2, 0, 1), 1)))

    def test_parts_of_stages_that_no_history_leads_to(self):
        plan = one_signal(
            ((500,), 1, (), (((0, 0, 1, 1), STOP), ((0, 1, 1, 1), STOP), ((0, 2, 1, 1), STOP))),
            ((700,), 3, (GOOD,), ((BAD, STOP),)), ((700,), 1, (GOOD, BAD), ()),
        )
        self.assertEqual([1, 2], unreached_stages(plan))
        self.assertEqual([("guard", 1, 0), ("need", 1, 0), ("need", 2, 0), ("need", 2, 1)], idle_parts(plan))
        self.assertEqual((plan[2][0], ((700,), 3, (), ()), ((700,), 1, (), ())), slim(plan)[2])

    def test_unreached_stages(self):
        self.assertEqual([], unreached_stages(P))
        self.assertEqual([], unreached_stages(R))
        impossible = ((0, 1, 1, 1), (0, 2, 1, 1))
        plan = one_signal(((500,), 1, (), ()), ((700,), 1, impossible, ()), ((800,), 1, (), ()), ((900,), 1, (), ()))
        self.assertEqual([2, 3], unreached_stages(plan))
        for plan in some_plans(91, 60):
            reached = {state[1] for state in states(plan) if state[0] == "open"}
            self.assertEqual([at for at in range(len(plan[2])) if at not in reached], unreached_stages(plan))

    def test_against_slow_walks(self):
        found = {True: 0, False: 0}
        for plan in small_plans(92, 90) + small_plans(93, 30, signals=2):
            parts = slow_parts(plan)
            idle = [part for part in parts if slow_alike(plan, slow_without(plan, part))]
            found[True] += len(idle)
            found[False] += len(parts) - len(idle)
            with self.subTest(plan=plan):
                self.assertEqual(idle, idle_parts(plan))
                if len(parts) <= 6:
                    self.assertEqual(slow_slim(plan), slim(plan))
                    self.assertEqual([], idle_parts(slim(plan)))
                    self.assertEqual(machine(plan), machine(slim(plan)))
        self.assertGreater(min(found.values()), 40)

    def test_alike_plans(self):
        # The same walk tells whether plans are alike, and where they differ first.
        plans = [plan for plan in small_plans(94, 60) if len(plan[0]) == 1]
        found = {True: 0, False: 0}
        for one, other in zip(plans, plans[1:]):
            for twin in (other, (*one[:3], one[3] + 1), slim(one)):
                twin = (one[0], one[1], twin[2], twin[3])
                due = slow_alike(one, twin)
                found[due] += 1
                self.assertIs(due, are_alike(one, twin))
                self.assertIs(due, unlike_history(one, twin) is None)
                self.assertIs(due, machine(one) == machine(twin))
        self.assertGreater(min(found.values()), 15)

    def test_limits(self):
        plan = sixty_states()
        self.assertEqual(60, len(states(plan)))
        stages = tuple(
            (shares, hold, needs + ((0, 1, 1, 2), (0, 1, 2, 2)), guards + ((guards[0][0], STOP), ((1, 2, 2, 2), ("back", 0))))
            for shares, hold, needs, guards in plan[2]
        )
        more = (*plan[:2], stages, plan[3])
        with at_once(10):
            for _ in range(5):
                # Behind a guard with the same condition the others never act.
                due = [part for part in slow_parts(more) if part in idle_parts(more)]
                self.assertEqual(due, idle_parts(more))
                self.assertIn(("guard", 0, 2), due)
                self.assertIs(True, are_alike(plan, plan))
            six = (*plan[:2], ((*plan[2][0][:2], ((0, 1, 2, 2), (0, 1, 1, 2)), plan[2][0][3] * 2), plan[2][1]), plan[3])
            for _ in range(5):
                self.assertEqual([], idle_parts(slim(six)))


class Shares(Case):
    def test_with_share(self):
        for plan in (P, R):
            for stage in range(2):
                for region in range(2):
                    for share in (0, 1, 500, 1000):
                        self.assertEqual(changed(plan, (2, stage, 0, region), share), with_share(plan, stage, region, share))

    def test_full_share(self):
        self.assertEqual([1000, 1000], [greatest_share(P, 1, 0, 990), greatest_share(P, 1, 0, HUGE)])
        # A harm of 989 is not enough for 900 users: 899 of them are left.
        self.assertEqual(999, greatest_share(P, 1, 0, 989))
        # The signal is of the other region.
        self.assertEqual(1000, greatest_share(P, 1, 1, 990))
        self.assertIsNone(greatest_share(P, 1, 1, 989))

    def test_no_harm_at_all(self):
        self.assertEqual([1000, None], [greatest_share(P, 0, 0, 0, GOOD_ONLY), greatest_share(P, 0, 0, 0)])
        free = changed(P, (1, 0, 3), 0)
        self.assertEqual(1000, greatest_share(free, 0, 0, 0))
        plan = one_signal(((500,), 2, (), ()), regions=((1000, 7, 3, 0),))
        # A share of 0 does no harm; nor does one that is less than one user.
        self.assertEqual(0, greatest_share(plan, 0, 0, 0))
        self.assertEqual(0, greatest_share(plan, 0, 0, 1))
        self.assertEqual(1, greatest_share(plan, 0, 0, 2))
        self.assertEqual(499, greatest_share(changed(plan, (0, 0), (2, 1, 0, 0)), 0, 0, 1))
        self.assertEqual(499, greatest_share(changed(plan, (0, 0), (2, 1, 0, 0)), 0, 0, 0))
        self.assertEqual(1000, greatest_share(changed(plan, (0, 0), (2, 1, 0, 2)), 0, 0, 0))

    def test_harm_without_an_upper_bound(self):
        # Any user adds harm with each bad letter, again and again.
        self.assertEqual([99, 99], [greatest_share(ENDLESS, 0, 0, 0), greatest_share(ENDLESS, 0, 0, HUGE)])
        self.assertEqual(1000, greatest_share(ENDLESS, 0, 0, 0, GOOD_ONLY))
        # Two stages of which both, or just one, may go on for ever.
        plan = one_signal(((500,), 1, (GOOD,), ()), ((500,), 1, (GOOD,), ()), regions=((10, 1, 0, 0),))
        self.assertIsNone(greatest_share(plan, 0, 0, HUGE))
        self.assertIsNone(greatest_share(plan, 1, 0, HUGE))
        self.assertEqual(99, greatest_share(with_share(plan, 1, 0, 0), 0, 0, HUGE))
        self.assertIsNone(greatest_share(with_share(plan, 1, 0, 100), 0, 0, HUGE))
        plan = one_signal(((500,), 1, (GOOD,), ()), ((500,), 3, (), ()), regions=((10, 1, 0, 0),))
        self.assertIsNone(greatest_share(plan, 1, 0, HUGE))
        plan = with_share(plan, 0, 0, 0)
        self.assertEqual([99, 199, 999, 1000], [greatest_share(plan, 1, 0, most) for most in (2, 3, 29, 30)])

    def test_another_history_does_most_with_a_lesser_share(self):
        # Either two bad letters in the first stage, or one in the second one with a dear signal.
        told = (4, ((0, (2, None), 1), (1, (2, None), 2), (0, (0, 0), 3), (3, (1, 1), 3), (3, (0, 2), 2)))
        plan = (((100, 1, 0, 0), ), ((0, 20, 5, 3), (0, 20, 5, 10)), (((500,), 1, ((0, 1, 1, 1),), ()), ((500,), 9, (), ())), 0)
        for most in (0, 5, 250, 500, 600, 700, 1000, 5000):
            for stage in (0, 1):
                self.assertEqual(slow_share(plan, stage, 0, most, told), greatest_share(plan, stage, 0, most, told))

    def test_against_all_shares(self):
        source = random.Random(95)
        found = {}
        for plan in small_plans(96, 24) + small_plans(97, 8, signals=2):
            for told in some_behaviours(source.randrange(99), 1, len(plan[1]), nodes=2):
                for _ in range(2):
                    stage, region = source.randrange(len(plan[2])), source.randrange(len(plan[0]))
                    most = source.choice((0, 1, 5, 10, 20, 30, 50, 100, HUGE))
                    due = slow_share(plan, stage, region, most, told)
                    found[due] = found.get(due, 0) + 1
                    self.assertEqual(due, greatest_share(plan, stage, region, most, told), (plan, stage, region, most, told))
        self.assertGreater(found[None], 5)
        self.assertGreater(found[1000], 5)
        self.assertGreater(sum(found.values()) - found[None] - found[1000], 5)

    def test_great_regions(self):
        plan = one_signal(((500,), 7, (), (((0, 2, 3, 3), STOP),)), regions=((BIG, 1, 0, 0),))
        plan = changed(plan, (1, 0, 3), BIG)
        for share in (0, 1, 2, 333, 999, 1000):
            most = greatest_harm(with_share(plan, 0, 0, share))
            self.assertEqual(share, greatest_share(plan, 0, 0, most))
            if share > 0:
                self.assertEqual(share - 1, greatest_share(plan, 0, 0, most - 1))
        self.assertEqual(1000, greatest_share(plan, 0, 0, HUGE))

    def test_limits(self):
        plan = sixty_states()
        told = (2, tuple((at % 2, (at // 2 % 3, None), (at + at // 4) % 2) for at in range(30)))
        with at_once(10):
            for behaviour in (None, told):
                for _ in range(10):
                    for most in (0, 1, HUGE):
                        share = greatest_share(plan, 1, 0, most, behaviour)
                        self.assertIn(share, (None, 0, *range(1001)))

    def test_none_is_the_behaviour_that_is_left_out(self):
        for most in (0, 89, 500, 990):
            self.assertEqual(greatest_share(P, 1, 0, most), greatest_share(P, 1, 0, most, None))


def slow_share(plan, stage, region, most, told):
    """Return the greatest of all shares with a great enough harm, one count after the other."""
    found = None
    for share in range(1001):
        size, _, _, held = plan[0][region]
        if share < 1000 and (size - held) * share // 1000 == (size - held) * (share + 1) // 1000:
            continue
        harm = greatest_harm(changed(plan, (2, stage, 0, region), share), told)
        if harm is not None and harm <= most:
            found = share
    return found


class Joined(Case):
    def test_stages(self):
        plan = joined(P, changed(P, (3,), 5))
        self.assertEqual((P[0], P[1]), plan[:2])
        self.assertEqual(6, plan[3])
        self.assertEqual(P[2], plan[2][:2])
        self.assertEqual(changed(P[2], (0, 3, 0, 1), ("back", 2)), plan[2][2:])

    def test_all_actions(self):
        guards = ((BAD, STOP), (GOOD, ("back", 0)), (BAD, ("drop", 1)), ((0, 0, 1, 1), ("back", 1)))
        one = two_regions(((500, 0), 1, (), ()), ((500, 0), 2, (GOOD,), guards), ((500, 0), 2, (), ()), tries=2)
        plan = joined(one, one)
        self.assertIs(True, is_plan(plan))
        self.assertEqual([4, 6, ((BAD, STOP), (GOOD, ("back", 3)), (BAD, ("drop", 1)), ((0, 0, 1, 1), ("back", 4)))], [plan[3], len(plan[2]), plan[2][4][3]])
        self.assertEqual(one[2], plan[2][:3])
        self.assertEqual((*one[2][1][:3], plan[2][4][3]), plan[2][4])
        three = joined(plan, one)
        self.assertEqual(three, joined(one, joined(one, one)))
        self.assertEqual([6, ("back", 6), ("back", 7)], [three[3], three[2][7][3][1][1], three[2][7][3][3][1]])

    def test_histories(self):
        # Behind the histories of the first plan those of the second one follow.
        one = one_signal(((500,), 2, (GOOD,), ()))
        other = one_signal(((700,), 1, (), ((BAD, ("back", 0)),)), tries=2)
        plan = joined(one, other)
        self.assertEqual(("open", 1, 0, (), (), 2), state_after(plan, [(1,), (1,)]))
        self.assertEqual(("open", 1, 0, (), (), 1), state_after(plan, [(1,), (1,), (2,)]))
        self.assertEqual(("stopped",), state_after(plan, [(1,), (1,), (2,), (2,), (2,)]))
        self.assertEqual(("done", ()), state_after(plan, [(1,), (1,), (2,), (2,), (0,)]))
        self.assertEqual(4 + 5, harm_of(plan, [(2,), (1,), (2,)]))

    def test_some_plans(self):
        for plan in some_plans(98, 40):
            other = (plan[0], plan[1], plan[2][:1], plan[3] + 3)
            for one, two in ((plan, other), (other, plan), (plan, plan)):
                both = joined(one, two)
                self.assertIs(True, is_plan(both))
                self.assertEqual(len(one[2]) + len(two[2]), len(both[2]))
                self.assertEqual(one[3] + two[3], both[3])

    def test_plans_of_any_size(self):
        stage = ((500,), 5, ((0, 1, 4, 4),) * 4, ((((0, 2, 4, 4), ("back", 0))),) * 4)
        plan = ((((10, 3, 4, 2),)), ((0, 20, 5, 1),) * 3, (stage,) * 6, 3)
        with at_once(10):
            for _ in range(100):
                both = joined(plan, plan)
                without_part(plan, ("guard", 5, 3))
                with_share(plan, 5, 0, 1)
        self.assertEqual(12, len(both[2]))
        self.assertEqual(("back", 6), both[2][11][3][3][1])


class WrongArguments(Case):
    def test_plan(self):
        for wrong in NOT_PLANS:
            with self.subTest(wrong):
                self.fails(NotAPlan, without_part, wrong, None)
                for function in (idle_parts, unreached_stages, slim):
                    self.fails(NotAPlan, function, wrong)
                self.fails(NotAPlan, with_share, wrong, 0, 0, 0)
                self.fails(NotAPlan, greatest_share, wrong, 0, 0, 0)
                self.fails(NotAPlan, joined, wrong, P)
                self.fails(NotAPlan, joined, P, wrong)

    def test_part(self):
        wrongs = (
            *NOT_INTEGERS, "need", ("need",), ("need", 0), ("need", 0, 0, 0), ["need", 0, 0], ("needs", 0, 0), ("Need", 0, 0),
            ("need", 0, 1), ("need", 1, 0), ("need", 2, 0), ("guard", 0, 1), ("guard", 1, 1), ("guard", 2, 0), ("need", -1, 0),
            ("need", 0, -1), ("guard", -1, -1), ("need", True, 0), ("guard", True, 0), ("guard", 0, False), ("need", 0, None),
            ("need", "0", 0), (b"need", 0, 0), (None, 0, 0), (2, 0, 0), (0, 0, "need"), ("need", (0, 0), 0), ("need", BIG, 0),
            ("need", 0, BIG), (["need"], 0, 0), ({}, 0, 0), ("guard", 0, 0.0), ("stop", 0, 0),
        )
        for wrong in wrongs:
            with self.subTest(wrong):
                self.fails(NoPart, without_part, P, wrong)

    def test_place(self):
        for wrong in (*NOT_INTEGERS, -1, 2, BIG):
            with self.subTest(wrong):
                self.fails(NoStage, with_share, P, wrong, 0, 0)
                self.fails(NoStage, greatest_share, P, wrong, 0, 0)
                self.fails(NoRegion, with_share, P, 0, wrong, 0)
                self.fails(NoRegion, greatest_share, P, 0, wrong, 0)

    def test_share(self):
        for wrong in (*NOT_INTEGERS, -1, 1001, BIG):
            with self.subTest(wrong):
                self.fails(InvalidShare, with_share, P, 1, 1, wrong)

    def test_most(self):
        for wrong in (*NOT_INTEGERS, -1, -HUGE):
            with self.subTest(wrong):
                self.fails(InvalidNumber, greatest_share, P, 1, 1, wrong)

    def test_behaviour(self):
        for wrong in WRONG_BEHAVIOURS:
            with self.subTest(wrong):
                self.fails(InvalidBehaviour, greatest_share, R, 1, 1, 0, wrong)
        self.fails(InvalidBehaviour, greatest_share, R, 1, 1, 0, GOOD_ONLY)

    def test_other_shape(self):
        three = (P[0] + P[0][:1], *P[1:])
        three = changed(changed(three, (2, 0, 0), (100, 0, 0)), (2, 1, 0), (100, 0, 0))
        for other in (
            R, ENDLESS, three, changed(P, (0, 1), (10, 3, 1, 0)), changed(P, (0,), P[0][::-1]), changed(P, (1, 0, 3), 2),
            changed(P, (1,), P[1] * 2),
        ):
            self.assertIs(True, is_plan(other))
            self.fails(OtherShape, joined, P, other)
            self.fails(OtherShape, joined, other, P)

    def test_first_wrong_argument_tells(self):
        self.fails(NotAPlan, without_part, part=None, plan=None)
        self.fails(NotAPlan, with_share, None, None, None, None)
        self.fails(NoStage, with_share, P, None, None, None)
        self.fails(NoRegion, with_share, P, 0, None, None)
        self.fails(InvalidShare, with_share, share=None, region=0, stage=0, plan=P)
        self.fails(NotAPlan, greatest_share, None, None, None, None, ())
        self.fails(NoStage, greatest_share, P, None, None, None, ())
        self.fails(NoRegion, greatest_share, P, 0, None, None, ())
        self.fails(InvalidNumber, greatest_share, P, 0, 0, None, ())
        self.fails(InvalidBehaviour, greatest_share, behaviour=(), most=0, region=0, stage=0, plan=P)
        self.fails(NotAPlan, joined, None, None)
        self.fails(NotAPlan, joined, R, None)
        self.fails(NotAPlan, joined, None, R)


class NewLists(Case):
    def test_new_lists(self):
        for plan in (P, R, ENDLESS):
            self.gives_new_lists(idle_parts, plan)
            self.gives_new_lists(unreached_stages, plan)


if __name__ == "__main__":
    unittest.main()
