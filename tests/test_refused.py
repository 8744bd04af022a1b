"""Point [10] once more: refused plans in everything that takes a plan."""

import unittest

import stagedplans.course
import stagedplans.gaps
import stagedplans.harm
import stagedplans.hurt
import stagedplans.kinds
import stagedplans.logs
import stagedplans.machines
import stagedplans.moves
import stagedplans.numbers
import stagedplans.objects
import stagedplans.parts
import stagedplans.plans
import stagedplans.rates
import stagedplans.seen
import stagedplans.states
import stagedplans.texts
import stagedplans.times
import stagedplans.unknown
import stagedplans.worst
from stagedplans.course import Course
from stagedplans.errors import NotAPlan
from stagedplans.kinds import CappedCourse, FirmCappedCourse, FirmCourse
from stagedplans.numbers import histories
from stagedplans.objects import StagePlan
from stagedplans.plans import first_fault, is_plan
from tests.helper import BIG, Case, NOT_PLANS, P
from tests.test_plans import FULL

STATE = ("open", 0, 0, (), (), 3)
LETTERS = [(1, 1), (2, 0)]
# The arguments behind the plan, all of them right ones for the plan FULL.
ONE_PLAN = {
    "plans": {"stage_count": (), "region_count": (), "signal_count": (), "letter_of": ([(50, 1), (1, 1)],), "letters_for": ()},
    "states": {
        "begin": (), "step": (STATE, (1, 1)), "state_after": (LETTERS,), "counts": (STATE,), "is_state": (STATE,), "states": (),
        "history_to": (STATE,), "has_version": (STATE, 0, 0),
    },
    "harm": {"harm_of": (LETTERS,), "hurt_of": (LETTERS,), "user_hurt": (LETTERS, 0, 0)},
    "logs": {"log_fault": ([((1, 1), (0, 0))],), "followed": ([],)},
    "unknown": {
        "possible_states": ([],), "count_bounds": ([],), "surely_open": ([], 0, 0), "harm_bounds": ([],), "telling_periods": ([],),
        "bound_histories": ([],), "filling_to": ([], "open"),
    },
    "worst": {
        "greatest_harm": (None,), "harm_history": (None,), "harm_ring": (None,), "is_harm_ring": (LETTERS, LETTERS, None),
        "harm_table": (None,), "harm_table_fault": ([], None),
    },
    "rates": {"harm_rate": (None,), "rate_table": ((0, 1), None), "rate_table_fault": ((0, 1), [], None), "rate_ring": (None,)},
    "hurt": {"greatest_hurt": (None,), "hurt_history": (None,), "hurt_limits": (None,), "may_be_hurt": (0, 0, None)},
    "times": {"fastest": ("open", None), "slowest": (None,), "slowest_history": (None,), "words_after": (0, None)},
    "machines": {"machine": ()},
    "numbers": {"count_histories": (0, "open"), "nth_history": (0, "open", 0), "history_index": ("open", [])},
    "seen": {"explaining": ([],), "count_explaining": ([],), "unexplained": ([],), "states_seen": ([],), "next_counts": ([],)},
    "parts": {
        "without_part": (("need", 1, 0),), "idle_parts": (), "unreached_stages": (), "slim": (), "with_share": (0, 0, 0),
        "greatest_share": (0, 0, 0, None),
    },
    "moves": {"stay_after": (LETTERS,)},
    "texts": {"format_plan": ()},
}
# The arguments behind both plans.
TWO_PLANS = {
    "machines": {"are_alike": (), "unlike_history": (None,), "pairing": (), "pairing_fault": ([],)},
    "gaps": {
        "worst_gap": (None,), "gap_history": (None,), "gap_ring": (None,), "gap_table": (None,), "gap_table_fault": ([], None),
        "never_worse": (None,),
    },
    "parts": {"joined": ()},
    "moves": {
        "moved_state": (LETTERS,), "harm_with_change": (LETTERS, LETTERS), "noticed_by": (LETTERS,), "worst_change": (),
        "change_history": (),
    },
}


def functions_of(table):
    return [
        (getattr(getattr(stagedplans, module), name), args)
        for module, rows in table.items()
        for name, args in rows.items()
    ]


def first_history(plan, periods, word):
    return next(histories(plan, periods, word), None)


def refused():
    """Return values like FULL with something else at any place, as far as they are no plans."""
    found = [*NOT_PLANS]
    waiting = [()]
    while waiting:
        path = waiting.pop()
        value = FULL
        for at in path:
            value = value[at]
        wrongs = [None, True, -1, "stop", (), [], {}, 1.0, object(), BIG, b"", (None,) * 4, (0,) * 4]
        if isinstance(value, tuple):
            waiting += [(*path, at) for at in range(len(value))]
            wrongs += [list(value), value[:-1], (*value, None), (*value, *value[:1])]
        found += [put(FULL, path, wrong) for wrong in wrongs]
    return [value for value in found if not is_plan(value)]


def put(value, path, wrong):
    if not path:
        return wrong
    return (*value[:path[0]], put(value[path[0]], path[1:], wrong), *value[path[0] + 1:])


REFUSED = refused()


class RefusedPlans(Case):
    def test_all_places(self):
        faults = {first_fault(value) for value in REFUSED}
        for fault in (
            ("form",), ("tries",), *[("region", at) for at in range(2)], *[("signal", at) for at in range(2)],
            *[("stage", at) for at in range(3)], *[("need", 1, at) for at in range(3)], ("need", 2, 0),
            *[("guard", 1, at) for at in range(3)], ("guard", 2, 0),
        ):
            self.assertIn(fault, faults)
        self.assertGreater(len(REFUSED), 1000)

    def test_right_arguments(self):
        for function, args in functions_of(ONE_PLAN):
            if function.__name__ not in ("idle_parts", "slim"):
                function(FULL, *args)

    def test_one_plan(self):
        for function, args in [*functions_of(ONE_PLAN), (first_history, (0, "open"))]:
            for wrong in REFUSED:
                self.fails(NotAPlan, function, wrong, *args)
            for wrong in REFUSED[::7]:
                self.fails(NotAPlan, function, wrong, *[None for _ in args])
                self.fails(NotAPlan, function, wrong, *[object() for _ in args])
                self.fails(NotAPlan, function, wrong, *[wrong for _ in args])

    def test_two_plans(self):
        for function, args in functions_of(TWO_PLANS):
            for wrong in REFUSED[::2]:
                self.fails(NotAPlan, function, wrong, FULL, *args)
                self.fails(NotAPlan, function, FULL, wrong, *args)
            for wrong in REFUSED[::9]:
                for other in (P, None, wrong):
                    self.fails(NotAPlan, function, wrong, other, *[None for _ in args])
                    self.fails(NotAPlan, function, other, wrong, *[object() for _ in args])

    def test_objects(self):
        for wrong in REFUSED:
            self.fails(NotAPlan, StagePlan, wrong)
            for kind in (Course, FirmCourse, CappedCourse, FirmCappedCourse):
                self.fails(NotAPlan, kind, wrong)
                self.assertIs(False, kind.is_valid(wrong))
            for kind in (CappedCourse, FirmCappedCourse):
                self.fails(NotAPlan, kind, wrong, -1)
        for kind in (Course, FirmCourse, CappedCourse, FirmCappedCourse):
            course = kind(FULL)
            for wrong in REFUSED:
                self.fails(NotAPlan, course.edit, wrong)
            self.assertEqual((FULL, 0), (course.plan_now, len(course)))


if __name__ == "__main__":
    unittest.main()
