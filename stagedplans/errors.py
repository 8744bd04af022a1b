"""All errors of the package."""


class PlanError(ValueError):
    """The base class of all errors of the package."""


class InvalidRegion(PlanError):
    """A value is no region."""


class InvalidShare(PlanError):
    """A value is no share: no integer from 0 to 1000."""


class InvalidUser(PlanError):
    """A value is no number of a user of the region."""


class InvalidRank(PlanError):
    """A value is no rank of a user of the region."""


class InvalidIndex(PlanError):
    """A value is no index of what is counted."""


class InvalidLimit(PlanError):
    """A value is no limit of a signal: no integer from 0 to 1000."""


class InvalidLeast(PlanError):
    """A value is no least number of uses: no integer from 1 on."""


class InvalidReading(PlanError):
    """A value is no reading of a signal."""


class InvalidSpan(PlanError):
    """A value is no span of numbers from 0 on."""


class InvalidReadings(PlanError):
    """A value is no list of one reading for each signal."""


class NotAPlan(PlanError):
    """A value is no plan."""


class InvalidState(PlanError):
    """A value is no state of the plan."""


class InvalidLetter(PlanError):
    """A value is no letter for the signals."""


class InvalidLetters(PlanError):
    """A value is no list of letters for the signals."""


class NoRegion(PlanError):
    """A value is no index of a region of the plan."""


class NoStage(PlanError):
    """A value is no index of a stage of the plan."""


class InvalidRows(PlanError):
    """A value is no list of rows of a log of the plan."""


class InvalidPartials(PlanError):
    """A value is no list of partial letters for the signals."""


class InvalidBehaviour(PlanError):
    """A value is neither None nor a behaviour of the signals."""


class InvalidTable(PlanError):
    """A value is no table of the plan or plans."""


class InvalidMachine(PlanError):
    """A value is no machine for the number of signals."""


class InvalidWord(PlanError):
    """A value is no word of a state."""


class InvalidNumber(PlanError):
    """A value is no number of what is asked for."""


class InvalidRate(PlanError):
    """A value is no rate."""


class InvalidPairs(PlanError):
    """A value is no ascending list of pairs of states of the plans."""


class OtherShape(PlanError):
    """Two values do not have the same regions or signals."""


class NoHistory(PlanError):
    """A history does not lead to the word."""


class InvalidSeen(PlanError):
    """A value is no list of seen counts of the plan."""


class NoPart(PlanError):
    """A value is no part of the plan."""


class InvalidText(PlanError):
    """A value is no text of what is read."""


class NotAStagePlan(PlanError):
    """A value is no StagePlan object."""


class NotABehaviour(PlanError):
    """A value is no Behaviour object."""


class NothingToUndo(PlanError):
    """No call is left that can be undone."""


class NotAllowed(PlanError):
    """A call is not allowed for this object."""
