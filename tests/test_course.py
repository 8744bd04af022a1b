"""Points [36] and [37]: plans that run, and their kinds."""

import random
import unittest

from stagedplans.course import Course
from stagedplans.errors import InvalidLetter, InvalidNumber, InvalidReadings, InvalidText, NotAllowed, NotAPlan, NothingToUndo, OtherShape
from stagedplans.kinds import CappedCourse, FirmCappedCourse, FirmCourse
from stagedplans.plans import is_plan
from stagedplans.states import begin, counts, state_after
from stagedplans.texts import format_plan
from tests.helper import BIG, Case, Model, NOT_INTEGERS, NOT_PLANS, P, R
from tests.helper import at_once, changed, letters_of, some_plan, some_stage
from tests.test_moves import Q, moved_model
from tests.test_states import NOT_LETTERS, one_signal
from tests.test_texts import NOT_TEXTS, P_TEXT, R_TEXT
from tests.test_worst import ENDLESS

HUGE = 10 ** 100 - 1
KINDS = (Course, FirmCourse, CappedCourse, FirmCappedCourse)
FIRM = (FirmCourse, FirmCappedCourse)
CAPPED = (CappedCourse, FirmCappedCourse)
OTHERS = (R, ENDLESS, changed(P, (0, 1), (10, 3, 1, 0)), changed(P, (0,), P[0][::-1]), changed(P, (1, 0, 3), 2), changed(P, (1,), P[1] * 2))


class Told:
    """A course as the document tells it: all calls that count are run anew each time."""

    def __init__(self, plan, most=None):
        self.first, self.most = plan, most
        self.calls = []

    def run(self, more=()):
        plan, model = self.first, Model(self.first)
        harm, letters = 0, []
        hurt = [0] * len(plan[0])
        words = []
        for word, what in [*self.calls, *[("feed", letter) for letter in more]]:
            if word == "edit":
                plan, model = what, moved_model(model, what)
            else:
                bad = {signal[0] for signal in model.bad(what)}
                hurt = [max(many, model.count(region) if region in bad else 0) for region, many in enumerate(hurt)]
                harm += model.harm(what)
                model.feed(what)
                letters.append(what)
                if self.most is not None and harm > self.most:
                    model.word = "stopped"
            words.append(model.word)
        return {"plan": plan, "state": model.state(), "counts": model.counts(), "harm": harm, "letters": letters, "hurt": tuple(hurt), "words": words}


def snapshot(course):
    return (
        course.plan_now, course.state_now, course.letters_now, course.harm_now, course.hurt_now, len(course), course.told_words(),
    )


def due_snapshot(told, extra):
    run = told.run()
    words = [f"periods {len(run['letters'])}", f"harm {run['harm']}", *extra]
    return (run["plan"], run["state"], run["letters"], run["harm"], run["hurt"], len(told.calls), words)


class Examples(Case):
    def test_document(self):
        course = Course(P)
        self.assertEqual([90, 0], course.feed((2,)))
        self.assertEqual(["open", "open", "done"], course.try_letters((1,), (1,), (0,)))
        self.assertEqual([90, (90, 0), "feed"], [course.harm_now, course.hurt_now, course.undo()])
        self.assertEqual(("open", 0, 0, (), (), 1), course.state_now)
        capped = CappedCourse(P, most=89)
        self.assertEqual([0, 0], capped.feed((2,)))
        self.assertEqual([("stopped",), ["periods 1", "harm 90", "most 89"]], [capped.state_now, capped.told_words()])

    def test_by_name(self):
        course = Course(plan=P)
        self.assertEqual([90, 0], course.feed(letter=(1,)))
        self.assertEqual([900, 5], course.feed_readings(readings=[(60, 0)]))
        self.assertEqual("open", course.edit(plan=Q))
        self.assertIs(True, Course.is_valid(value=P))
        self.assertEqual(P, Course.read(text=P_TEXT).plan_now)
        self.assertEqual(P, FirmCourse(plan=P).plan_now)
        self.assertEqual(5, CappedCourse(most=5, plan=P).most)
        self.assertEqual(5, FirmCappedCourse(most=5, plan=P).most)

    def test_words_told_at_the_beginning(self):
        self.assertEqual(["periods 0", "harm 0"], Course(P).told_words())
        self.assertEqual(["periods 0", "harm 0", "firm"], FirmCourse(P).told_words())
        self.assertEqual(["periods 0", "harm 0", "most 1000"], CappedCourse(P).told_words())
        self.assertEqual(["periods 0", "harm 0", "firm", "most 7"], FirmCappedCourse(P, 7).told_words())


class Classes(Case):
    def test_bases(self):
        self.assertIs(True, issubclass(FirmCourse, Course) and issubclass(CappedCourse, Course))
        self.assertIs(True, issubclass(FirmCappedCourse, FirmCourse) and issubclass(FirmCappedCourse, CappedCourse))
        self.assertIs(False, issubclass(FirmCourse, CappedCourse) or issubclass(CappedCourse, FirmCourse))

    def test_methods_of_their_own(self):
        for name in (
            "feed", "feed_readings", "try_letters", "told_words", "edit", "undo", "__len__", "plan_now", "state_now", "letters_now",
            "harm_now", "hurt_now", "GRADES", "read", "is_valid",
        ):
            self.assertIn(name, vars(Course))
        self.assertIn("told_words", vars(FirmCourse))
        self.assertIn("told_words", vars(CappedCourse))

    def test_grades(self):
        for kind in KINDS:
            self.assertEqual([3, 3], [kind.GRADES, kind(P).GRADES])

    def test_read(self):
        for kind in KINDS:
            for text, plan in ((P_TEXT, P), (R_TEXT, R)):
                for course in (kind.read(text), kind(plan).read(text)):
                    self.assertIs(kind, course.__class__)
                    self.assertEqual(snapshot(kind(plan)), snapshot(course))
        for kind in CAPPED:
            self.assertEqual([1000, 1000], [kind.read(P_TEXT).most, kind(P, 5).read(P_TEXT).most])

    def test_is_valid(self):
        for kind in KINDS:
            self.assertIs(True, kind.is_valid(P))
            self.assertIs(True, kind(P).is_valid(R))
            for wrong in NOT_PLANS:
                self.assertIs(False, kind.is_valid(wrong))
                self.assertIs(False, kind(P).is_valid(wrong))

    def test_begin(self):
        for kind in KINDS:
            course = kind(R)
            self.assertEqual((R, begin(R), [], 0, (0, 0), 0), snapshot(course)[:6])

    def test_most(self):
        for kind in CAPPED:
            for most in (0, 1, 999, HUGE):
                self.assertEqual(most, kind(P, most).most)
                self.assertEqual(most, kind(P, most=most).most)
            self.assertEqual(1000, kind(P).most)


class Feeding(Case):
    def test_counts(self):
        for kind in (Course, FirmCourse):
            course = kind(P)
            for at, letter in enumerate([(2,), (1,), (1,), (2,), (2,), (0,)]):
                letters = course.letters_now + [letter]
                self.assertEqual(counts(P, state_after(P, letters)), course.feed(letter))
                self.assertEqual(letters, course.letters_now)
                self.assertEqual(state_after(P, letters), course.state_now)
                self.assertEqual(at + 1, len(course))
            self.assertEqual([990, (900, 0)], [course.harm_now, course.hurt_now])

    def test_behind_the_end(self):
        course = Course(P)
        for _ in range(3):
            course.feed((1,))
        self.assertEqual(("done", ()), course.state_now)
        before = course.harm_now
        for at in range(4):
            self.assertEqual([900, 5], course.feed((2,)))
        self.assertEqual([before, (0, 0), 7, ("done", ())], [course.harm_now, course.hurt_now, len(course.letters_now), course.state_now])
        course = Course(P)
        for at in range(4):
            self.assertEqual([90, 0] if at == 0 else [0, 0], course.feed((2,)))
        self.assertEqual([180, (90, 0), 4], [course.harm_now, course.hurt_now, len(course.letters_now)])
        self.assertEqual(["periods 4", "harm 180"], course.told_words())

    def test_readings(self):
        for kind in KINDS:
            one, other = kind(R), kind(R)
            for readings, letter in (([(20, 0), (19, 5)], (1, 0)), ([(100, 2), (100, 2)], (2, 2)), ([(100, 0), (0, 0)], (1, 0))):
                self.assertEqual(one.feed(letter), other.feed_readings(readings))
                self.assertEqual(snapshot(one), snapshot(other))
            self.assertEqual("feed", other.undo())
            self.assertEqual("feed", one.undo())
            self.assertEqual(snapshot(one), snapshot(other))

    def test_drops(self):
        course = Course(R)
        self.assertEqual([[10, 0], [50, 0], [50, 0]], [course.feed(letter) for letter in ((1, 2), (0, 2), (2, 0))])
        self.assertEqual([20 * 3 + 50 * 2, (50, 20)], [course.harm_now, course.hurt_now])


class Trying(Case):
    def test_nothing_changes(self):
        for kind in KINDS:
            course = kind(P)
            course.feed((2,))
            before = snapshot(course)
            self.assertEqual([], course.try_letters())
            self.assertEqual(["open"], course.try_letters((1,)))
            self.assertEqual(["stopped", "stopped"], course.try_letters((2,), (1,)))
            self.assertEqual(["open", "open", "done"] + ["done"] * 17, course.try_letters(*[(1,)] * 20))
            self.assertEqual(before, snapshot(course))
            self.assertEqual([90, 0], course.feed((1,)))

    def test_at_the_end(self):
        course = Course(P)
        for _ in range(3):
            course.feed((1,))
        self.assertEqual(["done"] * 3, course.try_letters((0,), (1,), (2,)))

    def test_harm_so_far(self):
        for kind in CAPPED:
            course = kind(P, most=100)
            self.assertEqual(["open", "stopped", "stopped"], course.try_letters((2,), (2,), (1,)))
            self.assertEqual(["open", "open", "stopped", "stopped"], course.try_letters((1,), (1,), (2,), (0,)))
            course.feed((2,))
            # The next period behind two good letters does a harm of 900.
            self.assertEqual(["open", "open", "stopped", "stopped"], course.try_letters((1,), (1,), (2,), (1,)))
            self.assertEqual(["open", "open", "done", "done"], course.try_letters((1,), (1,), (1,), (2,)))
            course.feed((1,))
            self.assertEqual(90, course.harm_now)


class Editing(Case):
    def test_document(self):
        course = Course(P)
        course.feed((1,))
        self.assertEqual("open", course.edit(Q))
        self.assertEqual([Q, ("open", 0, 1, ((1,),), (), 1)], [course.plan_now, course.state_now])
        self.assertEqual([450, 5], course.feed((1,)))
        self.assertEqual([450, 5], course.feed((2,)))
        self.assertEqual([450, (450, 0), [(1,), (1,), (2,)]], [course.harm_now, course.hurt_now, course.letters_now])

    def test_stay_goes_on_over_several_changes(self):
        plans = [one_signal(((500,), hold, (), (((0, 2, 2, window), ("stop",)),))) for hold, window in ((4, 2), (9, 5), (2, 2), (7, 6))]
        course = Course(plans[0])
        course.feed((0,))
        course.feed((2,))
        self.assertEqual("open", course.edit(plans[1]))
        self.assertEqual(("open", 0, 2, ((0,), (2,)), (), 0), course.state_now)
        course.feed((1,))
        self.assertEqual("open", course.edit(plans[2]))
        self.assertEqual(("open", 0, 1, ((1,),), (), 0), course.state_now)
        self.assertEqual("open", course.edit(plans[3]))
        # The letter that the plan ahead of it did not keep is still one of the stay.
        self.assertEqual(("open", 0, 3, ((0,), (2,), (1,)), (), 0), course.state_now)
        self.assertEqual([0], course.feed((2,)))
        self.assertEqual(("stopped",), course.state_now)
        for plan in plans:
            self.assertEqual("stopped", course.edit(plan))

    def test_words(self):
        course = Course(P)
        course.feed((1,))
        course.feed((1,))
        self.assertEqual("done", course.edit(changed(P, (2,), P[2][:1])))
        self.assertEqual([("done", ()), 3], [course.state_now, len(course)])
        self.assertEqual("done", course.edit(P))
        self.assertEqual([900, 5], course.feed((2,)))
        self.assertEqual([0, ("done", ())], [course.harm_now, course.state_now])
        self.assertEqual(["feed", "edit", "edit", "feed", "feed"], [course.undo() for _ in range(5)])
        course.feed((2,))
        course.feed((2,))
        self.assertEqual("stopped", course.edit(Q))

    def test_tries_do_not_come_back(self):
        course = Course(changed(P, (3,), 5))
        self.assertEqual(["open", "open"], [course.edit(changed(P, (3,), 2)), course.edit(changed(P, (3,), 9))])
        self.assertEqual(("open", 0, 0, (), (), 2), course.state_now)

    def test_dropped_regions(self):
        course = Course(R)
        course.feed((1, 2))
        self.assertEqual("open", course.edit(changed(R, (2, 0), ((0, 1000), 4, (), ()))))
        self.assertEqual(("open", 0, 1, (), (1,), 0), course.state_now)
        self.assertEqual([0, 0], course.feed((2, 2)))
        self.assertEqual(60, course.harm_now)

    def test_hurt_with_each_plan_that_ran(self):
        course = Course(P)
        course.feed((2,))
        course.edit(changed(P, (2, 0, 0), (50, 0)))
        course.feed((2,))
        self.assertEqual([135, (90, 0)], [course.harm_now, course.hurt_now])
        course.undo()
        course.undo()
        course.edit(changed(P, (2, 0, 0), (500, 0)))
        course.feed((2,))
        self.assertEqual([540, (450, 0)], [course.harm_now, course.hurt_now])

    def test_firm(self):
        for kind in FIRM:
            course = kind(P)
            course.feed((2,))
            before = snapshot(course)
            for plan in (P, Q):
                self.fails(NotAllowed, course.edit, plan)
            for other in OTHERS:
                self.fails(OtherShape, course.edit, other)
            for wrong in NOT_PLANS:
                self.fails(NotAPlan, course.edit, wrong)
            self.assertEqual(before, snapshot(course))
            self.assertEqual("feed", course.undo())
            self.fails(NotAllowed, course.edit, plan=P)
            self.assertEqual(0, len(course))


class Undoing(Case):
    def test_back_to_the_beginning(self):
        for kind in KINDS:
            course = kind(P)
            told = []
            for letter in ((2,), (1,), (1,), (2,), (1,), (0,)):
                told.append(snapshot(course))
                course.feed(letter)
                if kind not in FIRM and letter != (0,):
                    told.append(snapshot(course))
                    course.edit(Q if course.plan_now == P else P)
            after = snapshot(course)
            words = []
            while len(course) > 0:
                words.append(course.undo())
                self.assertEqual(told[len(course)], snapshot(course))
            self.assertEqual(6, words.count("feed"))
            self.assertEqual(0 if kind in FIRM else 5, words.count("edit"))
            self.fails(NothingToUndo, course.undo)
            self.assertEqual(snapshot(kind(P)), snapshot(course))
            # Fed again, it comes to where it was.
            for letter in ((2,), (1,), (1,), (2,), (1,), (0,)):
                course.feed(letter)
                if kind not in FIRM and letter != (0,):
                    course.edit(Q if course.plan_now == P else P)
            self.assertEqual(after, snapshot(course))

    def test_other_calls_are_not_undone(self):
        course = Course(P)
        course.try_letters((1,), (2,))
        course.told_words()
        self.fails(InvalidLetter, course.feed, (3,))
        self.fails(NothingToUndo, course.undo)
        self.assertEqual(0, len(course))

    def test_undone_calls_are_gone(self):
        course = Course(P)
        course.feed((2,))
        course.undo()
        course.feed((1,))
        self.assertEqual([[(1,)], 1, 0, "feed"], [course.letters_now, len(course), course.harm_now, course.undo()])
        self.fails(NothingToUndo, course.undo)

    def test_stopped_by_the_cap(self):
        for kind in CAPPED:
            course = kind(P, 89)
            course.feed((2,))
            self.assertEqual(("stopped",), course.state_now)
            course.undo()
            self.assertEqual([("open", 0, 0, (), (), 1), 0, (0, 0)], [course.state_now, course.harm_now, course.hurt_now])
            self.assertEqual([90, 0], course.feed((1,)))


class Caps(Case):
    def capped(self, plan, most, letters, words, harm):
        for kind in CAPPED:
            with self.subTest(kind=kind, most=most):
                course = kind(plan, most)
                self.assertEqual(words, course.try_letters(*letters))
                found = []
                for letter in letters:
                    course.feed(letter)
                    found.append(course.state_now[0])
                self.assertEqual([words, harm], [found, course.harm_now])
                self.assertEqual([f"periods {len(letters)}", f"harm {harm}"], course.told_words()[:2])

    def test_reached_and_passed(self):
        letters = [(2,), (1,), (2,)]
        # The share of 100 has 90 users, and the plan goes back once only.
        plan = changed(P, (3,), 9)
        self.capped(plan, 180, letters, ["open", "open", "open"], 180)
        self.capped(plan, 179, letters, ["open", "open", "stopped"], 180)
        self.capped(plan, 90, letters, ["open", "open", "stopped"], 180)
        self.capped(plan, 89, letters, ["stopped"] * 3, 90)
        self.capped(plan, 0, letters, ["stopped"] * 3, 90)
        self.capped(plan, 0, [(1,), (1,), (1,)], ["open", "open", "done"], 0)
        self.capped(plan, HUGE, letters, ["open"] * 3, 180)

    def test_passed_in_the_last_period(self):
        plan = one_signal(((500,), 2, (), ()))
        self.capped(plan, 8, [(2,), (2,), (0,)], ["open", "done", "done"], 8)
        self.capped(plan, 7, [(2,), (2,), (0,)], ["open", "stopped", "stopped"], 8)

    def test_passed_by_a_period_that_stops_anyway(self):
        self.capped(P, 100, [(2,), (2,)], ["open", "stopped"], 180)
        self.capped(P, 1000, [(2,), (2,)], ["open", "stopped"], 180)

    def test_counts_and_hurt_users(self):
        for kind in CAPPED:
            course = kind(R, 59)
            self.assertEqual([0, 0], course.feed((1, 2)))
            self.assertEqual([60, (0, 20), ("stopped",)], [course.harm_now, course.hurt_now, course.state_now])
            self.assertEqual([0, 0], course.feed((2, 2)))
            self.assertEqual([60, (0, 20), 2], [course.harm_now, course.hurt_now, len(course)])
            course = kind(R, 60)
            self.assertEqual([10, 0], course.feed((1, 2)))

    def test_stopped_course_that_is_edited(self):
        course = CappedCourse(P, 89)
        course.feed((2,))
        for plan in (Q, P, changed(P, (3,), 9)):
            self.assertEqual("stopped", course.edit(plan))
            self.assertEqual([("stopped",), plan], [course.state_now, course.plan_now])
        self.assertEqual([0, 0], course.feed((1,)))
        self.assertEqual(["stopped"], course.try_letters((1,)))
        self.assertEqual([90, 5], [course.harm_now, len(course)])

    def test_cap_behind_a_change(self):
        course = CappedCourse(P, 500)
        course.feed((1,))
        course.feed((1,))
        self.assertEqual("open", course.edit(Q))
        self.assertEqual(["done"], course.try_letters((2,)))
        self.assertEqual("open", course.edit(P))
        self.assertEqual(["stopped"], course.try_letters((2,)))
        self.assertEqual([0, 0], course.feed((2,)))
        self.assertEqual([900, "stopped"], [course.harm_now, course.edit(Q)])

    def test_default(self):
        course = CappedCourse(changed(P, (2, 0, 2), ()))
        for letter in ((2,), (1,), (1,), (2,)):
            course.feed(letter)
        self.assertEqual([990, "done"], [course.harm_now, course.state_now[0]])
        plan = changed(P, (1, 0, 3), 2)
        for kind in CAPPED:
            course = kind(plan)
            self.assertEqual(["open", "open", "open", "stopped"], course.try_letters((2,), (1,), (1,), (2,)))


class Runs(Case):
    def test_against_all_calls_anew(self):
        source = random.Random(150)
        seen = {}
        for at in range(160):
            first = some_plan(source, source.randint(1, 2), source.randint(1, 2))
            others = [first] + [
                (first[0], first[1], tuple(
                    some_stage(source, stage, len(first[0]), len(first[1])) for stage in range(source.randint(1, 3))
                ), source.randint(0, 3)) for _ in range(2)
            ]
            kind = KINDS[at % 4]
            most = source.choice((0, 3, 10, 30)) if kind in CAPPED else None
            course = kind(first) if most is None else kind(first, most)
            extra = (["firm"] if kind in FIRM else []) + ([] if most is None else [f"most {most}"])
            told = Told(first, most)
            letters = letters_of(len(first[1]))
            for _ in range(25):
                what = source.choice(("feed", "feed", "feed", "feed", "edit", "undo", "try"))
                if what == "feed":
                    letter = source.choice(letters)
                    told.calls.append(("feed", letter))
                    self.assertEqual(told.run()["counts"], course.feed(letter))
                elif what == "edit" and kind in FIRM:
                    self.fails(NotAllowed, course.edit, source.choice(others))
                elif what == "edit":
                    plan = source.choice(others)
                    told.calls.append(("edit", plan))
                    self.assertEqual(told.run()["words"][-1], course.edit(plan))
                elif what == "undo" and not told.calls:
                    self.fails(NothingToUndo, course.undo)
                elif what == "undo":
                    self.assertEqual(told.calls.pop()[0], course.undo())
                else:
                    more = [source.choice(letters) for _ in range(source.randrange(5))]
                    self.assertEqual(told.run(more)["words"][len(told.calls):], course.try_letters(*more))
                seen[what, course.state_now[0]] = seen.get((what, course.state_now[0]), 0) + 1
                self.assertEqual(due_snapshot(told, extra), snapshot(course))
        self.assertEqual(12, len(seen))
        self.assertGreater(min(seen.values()), 10)

    def test_limits(self):
        stage = ((500, 700), 5, ((0, 1, 4, 4), (1, 1, 4, 4)), (((0, 2, 3, 4), ("back", 0)), ((1, 2, 4, 4), ("drop", 1))))
        plan = (((BIG, 1, 0, 0), (1000, 7, 3, 100)), ((0, 20, 5, BIG), (1, 20, 5, BIG), (1, 1, 1, 1)), (stage,) * 6, 3)
        self.assertIs(True, is_plan(plan))
        source = random.Random(151)
        letters = letters_of(3)
        with at_once(10):
            for kind in KINDS:
                for _ in range(20):
                    course = kind(plan)
                    for _ in range(60):
                        course.feed(source.choice(letters))
                    course.try_letters(*[source.choice(letters) for _ in range(20)])
                    while len(course) > 0:
                        course.undo()
                    self.assertEqual(snapshot(kind(plan)), snapshot(course))


class Values(Case):
    def test_asked_for_twice(self):
        for kind in KINDS:
            course = kind(P)
            course.feed((2,))
            course.feed((1,))
            first, second = course.letters_now, course.letters_now
            self.assertEqual([(2,), (1,)], first)
            self.assertIsNot(first, second)
            first.append((0,))
            first[0] = (1,)
            self.assertEqual([[(2,), (1,)]] * 2, [second, course.letters_now])
            self.assertEqual(2, len(course.letters_now))
            told = course.told_words()
            self.assertIsNot(told, course.told_words())
            told.append("more")
            self.assertNotEqual(told, course.told_words())
            self.assertEqual([course.hurt_now, course.plan_now, course.state_now], [course.hurt_now, course.plan_now, course.state_now])
            self.assertIsInstance(course.hurt_now, tuple)
            for function in (course.feed, lambda letter: course.try_letters(letter)):
                rows = [function((0,)), function((0,))]
                self.assertIsNot(rows[0], rows[1])
                rows[0].append("more")
                self.assertEqual(rows[1], function((0,)))

    def test_arguments_do_not_change(self):
        readings = [(60, 0)]
        course = Course(P)
        course.feed_readings(readings)
        readings[0] = (60, 60)
        readings.append((1, 1))
        self.assertEqual([(1,)], course.letters_now)

    def test_courses_share_nothing(self):
        one, other = Course(P), Course(P)
        one.feed((2,))
        self.assertEqual([1, 0, [], 0], [len(one), len(other), other.letters_now, other.harm_now])

    def test_readings_and_texts_of_plans_that_are_fed(self):
        course = Course.read(format_plan(R))
        course.feed((1, 2))
        self.assertEqual(R, course.plan_now)


class WrongArguments(Case):
    def test_constructors(self):
        for kind in KINDS:
            for wrong in NOT_PLANS:
                with self.subTest(kind=kind, wrong=wrong):
                    self.fails(NotAPlan, kind, wrong)
            self.fails(NotAPlan, kind, kind(P))
        for kind in CAPPED:
            for wrong in (*NOT_INTEGERS, -1, -HUGE):
                with self.subTest(kind=kind, wrong=wrong):
                    self.fails(InvalidNumber, kind, P, wrong)
                    self.fails(InvalidNumber, kind, most=wrong, plan=P)
                    self.fails(NotAPlan, kind, None, wrong)

    def refused(self, course, error, function, *args, **more):
        before = snapshot(course)
        self.fails(error, function, *args, **more)
        self.assertEqual(before, snapshot(course))

    def courses(self, plan=R):
        for kind in KINDS:
            yield kind(plan)
            course = kind(plan)
            course.feed((1, 1) if plan == R else (1,))
            yield course
        done = Course(plan)
        for _ in range(9):
            done.feed((1, 1) if plan == R else (1,))
        yield done

    def test_letters(self):
        for course in self.courses():
            for wrong in NOT_LETTERS:
                self.refused(course, InvalidLetter, course.feed, wrong)
                self.refused(course, InvalidLetter, course.try_letters, wrong)
                self.refused(course, InvalidLetter, course.try_letters, (1, 1), wrong)
                self.refused(course, InvalidLetter, course.try_letters, wrong, (1, 1))
                self.refused(course, InvalidLetter, course.try_letters, (2, 2), (2, 2), (2, 2), wrong)

    def test_readings(self):
        good = (20, 3)
        wrongs = [
            *NOT_INTEGERS, [good], [good] * 3, (good, good), {good: good}, [good, None], [None, good], [good, (3, 20)], [good, (20, -1)],
            [(-1, -1), good], [good, (20,)], [good, (20, 3, 1)], [good, [20, 3]], [good, (True, 0)], [good, (20, False)], [good, (20, 1.0)],
        ]
        for course in self.courses():
            for wrong in wrongs:
                self.refused(course, InvalidReadings, course.feed_readings, wrong)

    def test_edit(self):
        for course in self.courses(P):
            for wrong in NOT_PLANS:
                self.refused(course, NotAPlan, course.edit, wrong)
            for other in OTHERS:
                if is_plan(other):
                    self.refused(course, OtherShape, course.edit, other)
        self.assertEqual(len(OTHERS), len([other for other in OTHERS if is_plan(other)]))

    def test_undo(self):
        for kind in KINDS:
            course = kind(P)
            self.refused(course, NothingToUndo, course.undo)

    def test_read(self):
        for kind in KINDS:
            for wrong in (*NOT_TEXTS, "", P_TEXT + "\n", P_TEXT.replace("hold 2", "hold 0"), P_TEXT[:-8]):
                with self.subTest(kind=kind, wrong=wrong):
                    self.fails(InvalidText, kind.read, wrong)
                    self.fails(InvalidText, kind(P).read, text=wrong)


if __name__ == "__main__":
    unittest.main()
