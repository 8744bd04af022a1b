"""The fewest and the most periods of possible histories."""

from stagedplans.behaviours import check_behaviour, turns_of
from stagedplans.checks import is_from
from stagedplans.errors import InvalidNumber
from stagedplans.periods import state_graph
from stagedplans.plans import check_plan
from stagedplans.searches import first_history
from stagedplans.signals import all_letters
from stagedplans.states import check_word
from stagedplans.walks import farthest, first_with_worth, links_of, walk_graph


def fastest(plan, word, behaviour=None):
    """Return the first of the shortest possible histories to a state with a word, or None."""
    check_plan(plan)
    check_word(word)
    check_behaviour(len(plan[1]), behaviour)
    listed, followers = state_graph(plan)
    letters = all_letters(len(plan[1]))
    found = first_history(followers, turns_of(behaviour, len(letters)), [state[0] == word for state in listed])
    return None if found is None else [letters[letter] for letter in found]


def slowest(plan, behaviour=None):
    """Return the greatest number of periods that begin in open states, or None."""
    check_plan(plan)
    check_behaviour(len(plan[1]), behaviour)
    _, _, worth = longest_walks(plan, behaviour)
    return worth[0] if len(worth) > 0 else None


def slowest_history(plan, behaviour=None):
    """Return the least possible history with the most periods that begin in open states, or None."""
    check_plan(plan)
    check_behaviour(len(plan[1]), behaviour)
    graph, gains, worth = longest_walks(plan, behaviour)
    if len(worth) == 0:
        return None
    letters = all_letters(len(plan[1]))
    return [letters[letter] for letter in first_with_worth(graph, gains, worth)]


def words_after(plan, periods, behaviour=None):
    """Return the ascending list of the words of the states behind a number of periods."""
    check_plan(plan)
    if not is_from(periods, 0):
        raise InvalidNumber()
    check_behaviour(len(plan[1]), behaviour)
    listed, followers = state_graph(plan)
    pairs, targets, _ = walk_graph(followers, turns_of(behaviour, len(followers[0])))
    behind = [sorted(set([end for ends in row for end in ends])) for row in targets]
    return sorted(set([listed[pairs[at][0]][0] for at in places_after(behind, periods)]))


def places_after(behind, periods):
    """Return the list of the pairs to which a number of periods can lead from the first one."""
    rows = [(0,)]
    met = {}
    # What follows a row of pairs is always the same, so rows go around from one met before.
    while rows[-1] not in met and len(rows) <= periods:
        met[rows[-1]] = len(rows) - 1
        rows.append(tuple(sorted(set([end for at in rows[-1] for end in behind[at]]))))
    if rows[-1] in met:
        start = met[rows[-1]]
        return rows[start + (periods - start) % (len(rows) - 1 - start)]
    return rows[periods]


def longest_walks(plan, behaviour):
    """Return the graph of the periods that begin in open states, their gains, and their worth.

    Each period gains 1, so a pair is worth the most periods from it on; the worth is empty
    if there is no greatest number.
    """
    listed, followers = state_graph(plan)
    turns = turns_of(behaviour, len(followers[0]))
    going = [row if state[0] == "open" else [] for state, row in zip(listed, followers)]
    graph = walk_graph(going, turns)
    gains = [[1 for _ in row] for row in going]
    worth, _ = farthest(links_of(graph, gains))
    return graph, gains, worth
