"""Kinds of plans that run: those that never change, and those that stop by the harm."""

from stagedplans.checks import is_from
from stagedplans.course import Course
from stagedplans.errors import InvalidNumber, NotAllowed
from stagedplans.periods import STOPPED


class FirmCourse(Course):
    """A plan that runs and never changes."""

    def edit(self, plan):
        """Refuse a new plan."""
        self._check_new(plan)
        raise NotAllowed()

    def told_words(self):
        """Return the list of the strings that tell the course."""
        return [*super().told_words(), "firm"]


class CappedCourse(Course):
    """A plan that runs until its harm is too great."""

    def __init__(self, plan, most=1000):
        super().__init__(plan)
        if not is_from(most, 0):
            raise InvalidNumber()
        self._most = most

    def told_words(self):
        """Return the list of the strings that tell the course."""
        return [*super().told_words(), f"most {self._most}"]

    @property
    def most(self):
        """Return the greatest harm with which the plan is not stopped."""
        return self._most

    def _led(self, state, harm, letter):
        """Return the state behind a period that begins in a state, and the harm so far with it."""
        behind, harm = super()._led(state, harm, letter)
        return (STOPPED if harm > self._most else behind), harm


class FirmCappedCourse(CappedCourse, FirmCourse):
    """A plan that runs, never changes, and stops by its harm."""
