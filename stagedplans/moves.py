"""Plans that take the place of others while these run.

A seat is a tuple (old state, new state): the state of an old plan behind a history, and the one
that a new plan has if it takes its place there. Each seat tells as much of the stay as counts
for both plans, so it also tells the seat behind one more letter.

A field of changes is a tuple (rows, harms, changes). Its spots are the indexes of the seats
behind all histories and, behind these, of the states of the new plan from the seats on. The
rows and the harms are the lists, by spots, of the lists, by letters, of the spots that follow
and of the harm of a period. The changes are the list, by seats, of the spots of their new states.
"""

from stagedplans.harm import harm_along, harms_of_states
from stagedplans.likeness import first_apart, told_from
from stagedplans.periods import first_state, graph_from, kept_letters, last_state, next_states
from stagedplans.periods import state_staying, states_along, stays_on
from stagedplans.plans import check_plan, check_same_shape
from stagedplans.signals import all_letters
from stagedplans.states import check_letters
from stagedplans.walks import farthest, gain_from, lessened


def stay_after(plan, letters):
    """Return the list of the letters of the stay behind a history, or None."""
    check_plan(plan)
    check_letters(plan, letters)
    state, stay = stay_behind(plan, letters)
    return stay if state[0] == "open" else None


def moved_state(old, new, letters):
    """Return the state of a new plan that takes the place of an old one behind a history."""
    check_both(old, new)
    check_letters(old, letters)
    return moved_behind(old, new, letters)


def harm_with_change(old, new, letters, later):
    """Return the harm of a history and of later letters with a new plan in the place of the old one."""
    check_both(old, new)
    check_letters(old, letters)
    check_letters(old, later)
    harm = harm_along(old, states_along(old, first_state(old), letters), letters)
    return harm + harm_along(new, states_along(new, moved_behind(old, new, letters), later), later)


def noticed_by(old, new, letters):
    """Return the first of the shortest lists of later letters behind which the outputs differ, or None."""
    check_both(old, new)
    check_letters(old, letters)
    told = told_from(old, last_state(old, letters))
    found = first_apart(told, new, moved_behind(old, new, letters))
    listed = all_letters(len(old[1]))
    return None if found is None else [listed[letter] for letter in found]


def worst_change(old, new):
    """Return the greatest harm with one change of the plans at any moment, or None."""
    check_both(old, new)
    worth, rings = worth_of(change_field(old, new))
    return None if len(rings) > 0 else worth[0]


def change_history(old, new):
    """Return the letters and the later letters with the greatest harm with one change, or None."""
    check_both(old, new)
    field = change_field(old, new)
    rows, harms, changes = field
    # As with the greatest harm of one plan, a period less decides only where the harm is equal.
    finer = (rows, lessened(harms, (1, len(rows) + 1)), changes)
    worth, rings = worth_of(finer)
    if len(rings) > 0:
        return None
    history = first_with_change(finer, worth)
    sums = harms_by_change(field, history)
    change = sums.index(max(sums))
    listed = all_letters(len(old[1]))
    letters = [listed[letter] for letter in history]
    return (letters[:change], letters[change:])


def check_both(old, new):
    """Raise an error for what are no plans with the same regions and signals."""
    check_plan(old)
    check_plan(new)
    check_same_shape(old, new)


def stay_behind(plan, letters):
    """Return the state behind a history, and the list of the letters of its stay."""
    along = states_along(plan, first_state(plan), letters)
    start = len(letters)
    while start > 0 and stays_on(along[start - 1], along[start]):
        start -= 1
    return along[-1], letters[start:]


def moved_behind(old, new, letters):
    """Return the state of a new plan that takes the place of an old one, without checks."""
    state, stay = stay_behind(old, letters)
    return state_in_place(new, state, stay)


def state_in_place(plan, state, stay):
    """Return the state of a plan that takes the place of another one in a state with a stay."""
    if state[0] != "open":
        return state
    _, stage, _, _, dropped, left = state
    if stage >= len(plan[2]):
        return ("done", dropped)
    told = plan[2][stage]
    tail = stay[max(0, len(stay) - kept_letters(told)):]
    return ("open", stage, min(len(stay), told[1] - 1), tuple(tail), dropped, min(left, plan[3]))


def moved_further(plan, seat, letter, behind):
    """Return the new state of the seat behind a letter that leads to an old state."""
    state, moved = seat
    if moved[0] != "open" or not stays_on(state, behind):
        return state_in_place(plan, behind, ())
    _, stage, age, tail, _, left = moved
    told = plan[2][stage]
    return state_staying(stage, age, told[1], (*tail, letter), kept_letters(told), behind[4], left)


def seats_of(old, new):
    """Return the list of the seats behind all histories, and the list of those that follow, by letters."""
    letters = all_letters(len(old[1]))
    first = first_state(old)
    seats = [(first, state_in_place(new, first, ()))]
    places = {seats[0]: 0}
    rows = []
    known = {}
    while len(rows) < len(seats):
        seat = seats[len(rows)]
        if seat[0] not in known:
            known[seat[0]] = next_states(old, seat[0], letters)
        row = []
        for letter, behind in zip(letters, known[seat[0]]):
            further = (behind, moved_further(new, seat, letter, behind))
            place = places.setdefault(further, len(seats))
            if place == len(seats):
                seats.append(further)
            row.append(place)
        rows.append(row)
    return seats, rows


def change_field(old, new):
    """Return the field of changes of two plans."""
    seats, rows = seats_of(old, new)
    starts = {moved: True for _, moved in seats}
    listed, followers = graph_from(new, list(starts))
    many = len(seats)
    places = {state: many + at for at, state in enumerate(listed)}
    harms = harms_of_states(old, [state for state, _ in seats]) + harms_of_states(new, listed)
    changes = [places[moved] for _, moved in seats]
    return ([*rows, *[[many + at for at in row] for row in followers]], harms, changes)


def worth_of(field):
    """Return what walks from each spot gain at most, and the rings that gain without an end."""
    rows, harms, changes = field
    links = []
    for spot, row in enumerate(rows):
        best = {changes[spot]: 0} if spot < len(changes) else {}
        for harm, end in zip(harms[spot], row):
            if end not in best or best[end] < harm:
                best[end] = harm
        links.append(best)
    return farthest(links)


def first_with_change(field, worth):
    """Return the least history with one change that gains what the first spot is worth."""
    rows, harms, changes = field
    here = with_changes([0], changes, worth)
    history = []
    # All spots are behind one history, and walks with the greatest gain end at once from each of them.
    while worth[here[0]] > 0:
        for letter in range(len(rows[0])):
            ends = [
                rows[spot][letter]
                for spot in here
                if harms[spot][letter] + worth[rows[spot][letter]] == worth[spot]
            ]
            if len(ends) > 0:
                history.append(letter)
                here = with_changes(ends, changes, worth)
                break
    return history


def with_changes(spots, changes, worth):
    """Return the list of some spots and of those to which a change leads that loses nothing."""
    moved = [changes[spot] for spot in spots if spot < len(changes) and worth[changes[spot]] == worth[spot]]
    return sorted(set([*spots, *moved]))


def harms_by_change(field, history):
    """Return the list of the harm of a history, by the number of the periods ahead of the change."""
    rows, harms, changes = field
    spot = 0
    harm = 0
    sums = []
    for at in range(len(history) + 1):
        sums.append(harm + gain_from(rows, harms, changes[spot], history[at:]))
        if at < len(history):
            harm = harm + harms[spot][history[at]]
            spot = rows[spot][history[at]]
    return sums
