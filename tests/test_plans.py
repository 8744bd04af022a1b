"""Points [6] to [10]: plans, their first fault, and letters for them."""

import unittest

from stagedplans.errors import InvalidReadings, NotAPlan
from stagedplans.plans import first_fault, is_plan, letter_of, letters_for
from stagedplans.plans import region_count, signal_count, stage_count
from tests.helper import BIG, Case, NOT_INTEGERS, NOT_PLANS, P, R, changed, letters_of, some_plans
from tests.test_regions import NOT_REGIONS
from tests.test_signals import NOT_READINGS

# Three stages, two regions, two signals; each kind of action stands in it.
FULL = (
    ((1000, 7, 3, 100), (10, 3, 0, 0)),
    ((0, 20, 50, 1), (1, 1000, 1, 0)),
    (
        ((0, 1000), 1, (), ()),
        (
            (100, 0), 2,
            ((0, 1, 1, 1), (1, 0, 2, 3), (1, 2, 4, 4)),
            (((0, 2, 1, 1), ("back", 0)), ((1, 2, 3, 3), ("drop", 1)), ((1, 1, 1, 4), ("stop",))),
        ),
        ((1000, 500), 5, ((0, 0, 1, 1),), (((0, 2, 2, 2), ("back", 2)),)),
    ),
    3,
)
# The greatest plan within the limits, with numbers of 30 digits.
GREATEST = (
    ((BIG, BIG - 1, BIG - 1, BIG), (BIG, 1, 0, 0), (1, 1, 0, 0), (1, 1, 0, 1)),
    ((0, 0, BIG, BIG), (3, 1000, 1, 0), (3, 1, 1, BIG)),
    tuple(
        (
            (0, 1000, 1, 999), 5,
            ((0, 0, 4, 4), (1, 1, 1, 4), (2, 2, 1, 1), (2, 2, 1, 1)),
            (
                ((0, 2, 4, 4), ("stop",)), ((1, 2, 1, 4), ("back", at)),
                ((2, 2, 1, 1), ("back", 0)), ((2, 0, 1, 1), ("drop", 3)),
            ),
        )
        for at in range(6)
    ),
    3,
)


class Examples(Case):
    def test_plans(self):
        for plan in (P, R, FULL, GREATEST, *some_plans(1, 50)):
            with self.subTest(plan):
                self.assertIs(True, is_plan(plan))
                self.assertIsNone(first_fault(plan))

    def test_numbers(self):
        for plan, regions, signals, stages in ((P, 2, 1, 2), (R, 2, 2, 2), (FULL, 2, 2, 3), (GREATEST, 4, 3, 6)):
            self.assertEqual(regions, region_count(plan))
            self.assertEqual(signals, signal_count(plan))
            self.assertEqual(stages, stage_count(plan))

    def test_arguments_by_name(self):
        self.assertIs(True, is_plan(value=P))
        self.assertIsNone(first_fault(value=P))
        self.assertEqual(2, region_count(plan=P))
        self.assertEqual(1, signal_count(plan=P))
        self.assertEqual(2, stage_count(plan=P))
        self.assertEqual((0,), letter_of(readings=[(0, 0)], plan=P))
        self.assertEqual([(0,), (1,), (2,)], letters_for(plan=P))

    def test_twenty_elements(self):
        plan = (
            ((3, 2, 0, 0),) * 20,
            tuple((at, 1000, 1, 0) for at in range(20)),
            (((1000,) * 20, BIG, ((19, 2, BIG, BIG),) * 20, (((19, 0, 1, BIG), ("drop", 19)),) * 20),) * 20,
            BIG,
        )
        self.assertIsNone(first_fault(plan))
        self.assertEqual(("guard", 19, 19), first_fault(changed(plan, (2, 19, 3, 19, 1, 1), 20)))
        self.assertEqual(("need", 19, 19), first_fault(changed(plan, (2, 19, 2, 19, 0), 20)))
        self.assertEqual(("signal", 19), first_fault(changed(plan, (1, 19, 0), 20)))


class FirstFault(Case):
    def faults(self, fault, path, *wrong):
        for value in wrong:
            with self.subTest(fault=fault, path=path, value=value):
                plan = changed(FULL, path, value)
                self.assertEqual(fault, first_fault(plan))
                self.assertIs(False, is_plan(plan))

    def test_form(self):
        for value in (*NOT_INTEGERS, (), (1,), (1, 2), FULL[:3], (*FULL, 1), list(FULL), (1, 2, 3, 4), "abcd"):
            with self.subTest(value):
                self.assertEqual(("form",), first_fault(value))
                self.assertIs(False, is_plan(value))
        for at in range(3):
            self.faults(("form",), (at,), (), None, [], list(FULL[at]), "ab", 1, {1: 1})

    def test_form_ahead_of_all(self):
        wrong = ((None,), (None,), (), None)
        self.assertEqual(("form",), first_fault(wrong))
        self.assertEqual(("form",), first_fault((FULL[0], FULL[1], [], -1)))

    def test_region(self):
        for at in range(2):
            self.faults(("region", at), (0, at), *NOT_REGIONS)

    def test_signal(self):
        for at in range(2):
            self.faults(("signal", at), (1, at), *NOT_INTEGERS, (0, 20, 50), (0, 20, 50, 1, 1), [0, 20, 50, 1])
            self.faults(("signal", at), (1, at, 0), *NOT_INTEGERS, -1, 2, BIG)
            self.faults(("signal", at), (1, at, 1), *NOT_INTEGERS, -1, 1001, BIG)
            self.faults(("signal", at), (1, at, 2), *NOT_INTEGERS, 0, -1, -BIG)
            self.faults(("signal", at), (1, at, 3), *NOT_INTEGERS, -1, -BIG)

    def test_stage(self):
        for at in range(3):
            self.faults(("stage", at), (2, at), *NOT_INTEGERS, ((0, 0), 1, ()), ((0, 0), 1, (), (), ()))
            self.faults(("stage", at), (2, at), [(0, 0), 1, (), ()])
            self.faults(("stage", at), (2, at, 0), *NOT_INTEGERS, (0,), (0, 0, 0), [0, 0], {0: 0, 1: 0})
            self.faults(("stage", at), (2, at, 0, 0), *NOT_INTEGERS, -1, 1001, BIG)
            self.faults(("stage", at), (2, at, 0, 1), *NOT_INTEGERS, -1, 1001, BIG)
            self.faults(("stage", at), (2, at, 1), *NOT_INTEGERS, 0, -1, -BIG)
            self.faults(("stage", at), (2, at, 2), None, [], [(0, 1, 1, 1)], 0, "", {})
            self.faults(("stage", at), (2, at, 3), None, [], [((0, 1, 1, 1), ("stop",))], 0, "", {})

    def conditions(self, fault, path):
        self.faults(fault, path, *NOT_INTEGERS, (0, 1, 1), (0, 1, 1, 1, 1), [0, 1, 1, 1])
        self.faults(fault, (*path, 0), *NOT_INTEGERS, -1, 2, BIG)
        self.faults(fault, (*path, 1), *NOT_INTEGERS, -1, 3, BIG)
        self.faults(fault, (*path, 2), *NOT_INTEGERS, 0, -1, 5, BIG)
        self.faults(fault, (*path, 3), *NOT_INTEGERS, 0, -1, -BIG)
        self.faults(fault, path, (0, 1, 2, 1), (0, 1, 0, 0), (0, 1, 5, 4))

    def test_need(self):
        for at, place in ((1, 0), (1, 1), (1, 2), (2, 0)):
            self.conditions(("need", at, place), (2, at, 2, place))

    def test_guard(self):
        for at, place in ((1, 0), (1, 1), (1, 2), (2, 0)):
            guard = FULL[2][at][3][place]
            self.conditions(("guard", at, place), (2, at, 3, place, 0))
            self.faults(("guard", at, place), (2, at, 3, place), *NOT_INTEGERS, guard[:1], (*guard, 1), list(guard))

    def test_action(self):
        for at, place in ((1, 0), (1, 1), (1, 2), (2, 0)):
            self.faults(
                ("guard", at, place), (2, at, 3, place, 1),
                *NOT_INTEGERS, "stop", ["stop"], ("stop", 0), ("stop", None), ("stop", 0, 0), (None,), (0,), ("Stop",),
                ("back",), ("drop",), ("back", 0, 0), ("drop", 0, 0), ["back", 0], ["drop", 0], (0, "back"),
                ("back", -1), ("back", at + 1), ("back", True), ("back", False), ("back", None), ("back", 0.0),
                ("drop", -1), ("drop", 2), ("drop", True), ("drop", False), ("drop", None), ("drop", "0"),
                ("go", 0), (None, 0), ("", 0), (b"back", 0), ((), 0), ("open", 0),
            )

    def test_right_actions(self):
        for at in range(1, 3):
            for action in (("stop",), ("drop", 0), ("drop", 1), *(("back", stage) for stage in range(at + 1))):
                self.assertIsNone(first_fault(changed(FULL, (2, at, 3, 0, 1), action)))

    def test_first_stage_goes_back_to_itself_only(self):
        plan = changed(FULL, (2, 0, 3), (((0, 1, 1, 1), ("back", 0)),))
        self.assertIsNone(first_fault(plan))
        self.assertEqual(("guard", 0, 0), first_fault(changed(plan, (2, 0, 3, 0, 1, 1), 1)))

    def test_tries(self):
        self.faults(("tries",), (3,), *NOT_INTEGERS, -1, -BIG)
        self.assertIsNone(first_fault(changed(FULL, (3,), 0)))
        self.assertIsNone(first_fault(changed(FULL, (3,), BIG)))

    def test_edges_that_are_no_faults(self):
        for path, value in (
            ((1, 0, 1), 0), ((1, 0, 1), 1000), ((1, 0, 2), 1), ((1, 0, 3), 0), ((1, 0, 0), 1),
            ((2, 0, 0), (1000, 1000)), ((2, 0, 0), (0, 0)), ((2, 0, 1), 1), ((2, 0, 1), BIG),
            ((2, 1, 2, 0), (1, 0, 1, 1)), ((2, 1, 2, 0), (0, 2, BIG, BIG)), ((2, 1, 2, 0), (0, 2, 1, BIG)),
        ):
            with self.subTest(path=path, value=value):
                self.assertIsNone(first_fault(changed(FULL, path, value)))

    def test_order_of_kinds(self):
        """Each fault is told ahead of all that stand behind it in the order."""
        ordered = (
            (("region", 0), (0, 0, 0), 0), (("region", 1), (0, 1, 0), 0),
            (("signal", 0), (1, 0, 1), -1), (("signal", 1), (1, 1, 1), -1),
            (("stage", 0), (2, 0, 1), 0), (("stage", 1), (2, 1, 1), 0), (("stage", 2), (2, 2, 0, 1), -1),
            (("need", 1, 0), (2, 1, 2, 0, 0), 9), (("need", 1, 2), (2, 1, 2, 2), None), (("need", 2, 0), (2, 2, 2, 0), 1),
            (("guard", 1, 0), (2, 1, 3, 0), 1), (("guard", 1, 2), (2, 1, 3, 2, 1), ("go",)),
            (("guard", 2, 0), (2, 2, 3, 0, 0), ()), (("tries",), (3,), -1),
        )
        plan = FULL
        for fault, path, wrong in reversed(ordered):
            plan = changed(plan, path, wrong)
            with self.subTest(fault):
                self.assertEqual(fault, first_fault(plan))

    def test_later_stage_ahead_of_earlier_need(self):
        plan = changed(changed(FULL, (2, 1, 2, 0), None), (2, 2), None)
        self.assertEqual(("stage", 2), first_fault(plan))
        plan = changed(changed(FULL, (2, 1, 3, 0), None), (2, 2, 2, 0), None)
        self.assertEqual(("need", 2, 0), first_fault(plan))

    def test_signal_of_a_faulty_number_of_regions(self):
        self.assertEqual(("signal", 1), first_fault(changed(FULL, (0,), FULL[0][:1])))
        self.assertEqual(("stage", 0), first_fault(changed(FULL, (0,), (*FULL[0], (1, 1, 0, 0)))))


class Letters(Case):
    def test_letter_of(self):
        self.assertEqual((0,), letter_of(P, [(49, 49)]))
        self.assertEqual((1,), letter_of(P, [(50, 1)]))
        self.assertEqual((2,), letter_of(P, [(50, 2)]))
        self.assertEqual((2, 1), letter_of(FULL, [(50, 2), (1, 1)]))
        self.assertEqual((0, 0), letter_of(FULL, [(49, 2), (0, 0)]))
        self.assertEqual((1, 0, 2), letter_of(GREATEST, [(BIG, 0), (0, 0), (BIG, BIG)]))

    def test_letter_of_leaves_its_argument(self):
        readings = [(50, 2), (1, 1)]
        letter_of(FULL, readings)
        self.assertEqual([(50, 2), (1, 1)], readings)

    def test_letters_for(self):
        self.assertEqual([(0,), (1,), (2,)], letters_for(P))
        self.assertEqual(letters_of(2), letters_for(R))
        self.assertEqual(letters_of(3), letters_for(GREATEST))
        self.assertEqual(9, len(letters_for(FULL)))

    def test_new_lists(self):
        self.gives_new_lists(letters_for, P)
        self.gives_new_lists(letters_for, R)


class WrongArguments(Case):
    def test_plan(self):
        for wrong in NOT_PLANS:
            with self.subTest(wrong):
                self.assertIs(False, is_plan(wrong))
                for function in (stage_count, region_count, signal_count, letters_for):
                    self.fails(NotAPlan, function, wrong)
                self.fails(NotAPlan, letter_of, wrong, [(50, 1)])
                self.fails(NotAPlan, letter_of, wrong, None)

    def test_readings(self):
        for wrong in (*NOT_INTEGERS, [(50, 1)], [(50, 1)] * 3, ((50, 1), (50, 1)), {0: (50, 1), 1: (50, 1)}):
            with self.subTest(wrong):
                self.fails(InvalidReadings, letter_of, FULL, wrong)
        for wrong in NOT_READINGS:
            with self.subTest(wrong):
                self.fails(InvalidReadings, letter_of, FULL, [wrong, (50, 1)])
                self.fails(InvalidReadings, letter_of, FULL, [(50, 1), wrong])


if __name__ == "__main__":
    unittest.main()
