"""Logs: the open counts that are told, beside those of the plan."""

from stagedplans.checks import are_integers, is_tuple_of
from stagedplans.errors import InvalidRows
from stagedplans.periods import counts_in, first_state, next_state
from stagedplans.plans import check_plan
from stagedplans.signals import is_letter


def log_fault(plan, rows):
    """Return the index and the due counts of the first row with other counts, or None."""
    check_plan(plan)
    check_rows(plan, rows)
    fault, _ = judged(plan, rows)
    return fault


def followed(plan, rows):
    """Return the state behind the rows ahead of the first one with other counts."""
    check_plan(plan)
    check_rows(plan, rows)
    _, state = judged(plan, rows)
    return state


def check_rows(plan, rows):
    """Raise an error for what is no list of rows for a plan."""
    if not isinstance(rows, list) or not all([is_row(row, plan) for row in rows]):
        raise InvalidRows()


def is_row(value, plan):
    """Tell whether any value is a row for a plan, whatever its counts are."""
    if not is_tuple_of(value, 2):
        return False
    letter, told = value
    return is_letter(letter, len(plan[1])) and are_integers(told, len(plan[0]))


def judged(plan, rows):
    """Return the fault of rows, or None, and the state behind the rows ahead of it."""
    state = first_state(plan)
    for at, (letter, told) in enumerate(rows):
        behind = next_state(plan, state, letter)
        due = tuple(counts_in(plan, behind))
        if told != due:
            return (at, due), state
        state = behind
    return None, state
