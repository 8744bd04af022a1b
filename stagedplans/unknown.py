"""Unknown readings: what the histories that fit partial letters can lead to.

Within this file a state stands as its index among those behind all histories, and a letter as
its index among all letters. The fits are the list, by periods, of the ascending lists of the
letters that fit the partial letter of the period.
"""

from stagedplans.errors import InvalidPartials
from stagedplans.harm import harms_of_states
from stagedplans.periods import counts_in, is_open_in, state_graph
from stagedplans.plans import check_plan
from stagedplans.regions import check_user
from stagedplans.signals import all_letters, fitting_indexes, is_partial
from stagedplans.states import check_region_index, check_word

LEAST = -1
GREATEST = 1


def possible_states(plan, partials):
    """Return the ascending list of the states behind all histories that fit."""
    check_both(plan, partials)
    return sorted(states_left(plan, partials))


def count_bounds(plan, partials):
    """Return the list of the tuples (least, greatest) of the open counts of each region."""
    check_both(plan, partials)
    rows = [counts_in(plan, state) for state in states_left(plan, partials)]
    columns = [[row[region] for row in rows] for region in range(len(plan[0]))]
    return [(min(column), max(column)) for column in columns]


def surely_open(plan, partials, region, user):
    """Tell whether a region is open to a user in all states behind the histories that fit."""
    check_both(plan, partials)
    check_region_index(plan, region)
    check_user(user, plan[0][region])
    return all([is_open_in(plan, state, region, user) for state in states_left(plan, partials)])


def harm_bounds(plan, partials):
    """Return the tuple (least, greatest) of the harm of all histories that fit."""
    check_both(plan, partials)
    listed, followers = state_graph(plan)
    fits = fits_of(partials)
    rows = rows_behind(followers, fits)
    bounds = []
    for side in (LEAST, GREATEST):
        ahead = worth_ahead(rows, fits, followers, harms_by_side(plan, listed, side), [0 for _ in listed])
        bounds.append(side * ahead[0][0])
    return tuple(bounds)


def telling_periods(plan, partials):
    """Return the ascending list of the indexes of the periods whose unknown grades can count."""
    check_both(plan, partials)
    _, followers = state_graph(plan)
    fits = fits_of(partials)
    rows = rows_behind(followers, fits)
    # For each two states of a row, whether the same further letters can lead to different ones.
    apart = {one: {other: one != other for other in rows[-1]} for one in rows[-1]}
    telling = []
    for at in reversed(range(len(fits))):
        row, fitting = rows[at], fits[at]
        if any([can_part(followers[state], fitting, apart) for state in row]):
            telling.append(at)
        apart = {
            one: {other: can_stay_apart(followers[one], followers[other], fitting, apart) for other in row}
            for one in row
        }
    return telling[::-1]


def bound_histories(plan, partials):
    """Return the least histories that fit with the least and with the greatest harm."""
    check_both(plan, partials)
    listed, followers = state_graph(plan)
    fits = fits_of(partials)
    rows = rows_behind(followers, fits)
    found = []
    for side in (LEAST, GREATEST):
        gains = harms_by_side(plan, listed, side)
        ahead = worth_ahead(rows, fits, followers, gains, [0 for _ in listed])
        found.append(first_with_all(plan, fits, followers, gains, ahead))
    return tuple(found)


def filling_to(plan, partials, word):
    """Return the least history that fits and leads to a state with a word, or None."""
    check_both(plan, partials)
    check_word(word)
    listed, followers = state_graph(plan)
    fits = fits_of(partials)
    rows = rows_behind(followers, fits)
    none = [[0 for _ in row] for row in followers]
    ahead = worth_ahead(rows, fits, followers, none, [1 if state[0] == word else 0 for state in listed])
    if ahead[0][0] == 0:
        return None
    return first_with_all(plan, fits, followers, none, ahead)


def check_both(plan, partials):
    """Raise an error for what is no plan, or no list of partial letters for its signals."""
    check_plan(plan)
    if not isinstance(partials, list) or not all([is_partial(item, len(plan[1])) for item in partials]):
        raise InvalidPartials()


def fits_of(partials):
    """Return the list of the lists of the letters that fit each of the partial letters."""
    return [fitting_indexes(partial) for partial in partials]


def rows_behind(followers, fits):
    """Return the list of the lists of the states behind the beginnings of histories that fit."""
    rows = [[0]]
    for fitting in fits:
        rows.append(sorted(set([followers[state][letter] for state in rows[-1] for letter in fitting])))
    return rows


def states_left(plan, partials):
    """Return the list of the states behind all histories that fit."""
    listed, followers = state_graph(plan)
    return [listed[at] for at in rows_behind(followers, fits_of(partials))[-1]]


def harms_by_side(plan, listed, side):
    """Return the harm by states and letters, with another sign if the least is looked for."""
    return [[side * harm for harm in row] for row in harms_of_states(plan, listed)]


def can_part(behind, fitting, apart):
    """Tell whether two of the letters that fit lead from a state to states that stay apart."""
    ends = sorted(set([behind[letter] for letter in fitting]))
    return any([apart[one][other] for one in ends for other in ends])


def can_stay_apart(behind, other_behind, fitting, apart):
    """Tell whether one of the letters that fit leads from two states to states that stay apart."""
    for letter in fitting:
        if apart[behind[letter]][other_behind[letter]]:
            return True
    return False


def worth_ahead(rows, fits, followers, gains, ends):
    """Return the list of the dicts of the most that the letters from each period on can gain.

    The rows are the states at the beginning of each period, and at the end, where each state
    is worth what the ends tell.
    """
    ahead = [{state: ends[state] for state in rows[-1]}]
    for at in reversed(range(len(fits))):
        later, fitting = ahead[-1], fits[at]
        ahead.append({
            state: max([gains[state][letter] + later[followers[state][letter]] for letter in fitting])
            for state in rows[at]
        })
    return ahead[::-1]


def first_with_all(plan, fits, followers, gains, ahead):
    """Return the least history that fits and gains all that is ahead."""
    letters = all_letters(len(plan[1]))
    state = 0
    history = []
    for at, fitting in enumerate(fits):
        due = ahead[at][state]
        best = [
            letter
            for letter in fitting
            if gains[state][letter] + ahead[at + 1][followers[state][letter]] == due
        ]
        history.append(letters[best[0]])
        state = followers[state][best[0]]
    return history
