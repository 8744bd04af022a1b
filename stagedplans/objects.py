"""Plans and behaviours as objects that never change."""

from stagedplans.behaviours import can_walk, check_behaviour, check_signal_number
from stagedplans.checks import is_index
from stagedplans.errors import InvalidIndex, NotABehaviour, NotAStagePlan, OtherShape
from stagedplans.languages import are_same, both_told
from stagedplans.likeness import are_like
from stagedplans.parts import join_of
from stagedplans.periods import last_state
from stagedplans.plans import are_alike_in_numbers, check_alike_in_numbers, check_plan, check_same_shape
from stagedplans.signals import are_letters
from stagedplans.states import check_letters
from stagedplans.walks import greatest_gain, twin_field


class StagePlan:
    """A plan as an object."""

    def __init__(self, plan):
        check_plan(plan)
        self._plan = plan

    def __call__(self, letters):
        """Return the state behind a history."""
        check_letters(self._plan, letters)
        return last_state(self._plan, letters)

    def __eq__(self, other):
        """Tell whether two objects have plans that are alike."""
        if not isinstance(other, StagePlan) or not are_alike_in_numbers(self._plan, other._plan):
            return False
        return are_like(self._plan, other._plan)

    def __sub__(self, other):
        """Return the greatest gap of two plans, or None."""
        if not isinstance(other, StagePlan):
            raise NotAStagePlan()
        check_alike_in_numbers(self._plan, other._plan)
        return greatest_gain(twin_field(self._plan, other._plan), None)

    def __add__(self, other):
        """Return the object of the joined plans."""
        if not isinstance(other, StagePlan):
            raise NotAStagePlan()
        check_same_shape(self._plan, other._plan)
        return StagePlan(join_of(self._plan, other._plan))

    def __len__(self):
        """Return the number of stages."""
        return len(self._plan[2])

    def __getitem__(self, at):
        """Return the stage with an index."""
        if not is_index(at, len(self._plan[2])):
            raise InvalidIndex()
        return self._plan[2][at]

    def __iter__(self):
        """Refuse to go over the stages."""
        raise TypeError("a StagePlan is not iterated over")

    def __contains__(self, letters):
        """Tell whether any value is a history behind which the plan is done."""
        return are_letters(letters, len(self._plan[1])) and last_state(self._plan, letters)[0] == "done"

    @property
    def plan(self):
        """Return the plan."""
        return self._plan


class Behaviour:
    """A behaviour of a number of signals as an object."""

    def __init__(self, number, behaviour):
        check_signal_number(number)
        check_behaviour(number, behaviour)
        self._number = number
        self._told = behaviour

    def __and__(self, other):
        """Return an object for which the histories are possible that are so for both."""
        if not isinstance(other, Behaviour):
            raise NotABehaviour()
        if self._number != other._number:
            raise OtherShape()
        return Behaviour(self._number, both_told(self._number, self._told, other._told))

    def __contains__(self, letters):
        """Tell whether any value is a possible history."""
        return are_letters(letters, self._number) and can_walk(self._told, letters)

    def __eq__(self, other):
        """Tell whether two objects have the same possible histories for as many signals."""
        if not isinstance(other, Behaviour) or self._number != other._number:
            return False
        return are_same(self._number, self._told, other._told)

    @property
    def number(self):
        """Return the number of signals."""
        return self._number

    @property
    def told(self):
        """Return the behaviour with which the object was made."""
        return self._told
