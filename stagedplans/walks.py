"""Walks of possible histories: the greatest gain, the first history with it, and rings.

A field is a tuple (letters, spots, followers, gains). The letters are all letters, ascending.
A spot is a tuple of states to which one history leads, as told in searches.py; the gains are
the list, by spots, of the lists of what a period that begins in the spot gains, by its letter.

A graph is a tuple (pairs, targets, ways). The pairs are all tuples (spot, node), with the
index of a spot, to which walks of possible histories lead from the first one on. The targets
are the list, by pairs, of the lists, by letters, of the lists of the indexes of the pairs that
follow; the ways lead to each pair from the first one on.
"""

from stagedplans.behaviours import turns_of
from stagedplans.harm import harms_of_states
from stagedplans.periods import state_graph
from stagedplans.searches import history_by
from stagedplans.signals import all_letters


def plan_field(plan):
    """Return the field of the states of a plan, with the harm of each period as its gain."""
    listed, followers = state_graph(plan)
    gains = harms_of_states(plan, listed)
    return (all_letters(len(plan[1])), [(state,) for state in listed], followers, gains)


def twin_field(one, other):
    """Return the field of the states of two plans, with the gap of each period as its gain."""
    letters, ones, one_followers, harms = plan_field(one)
    _, others, other_followers, other_harms = plan_field(other)
    twins, followers = twin_graph(one_followers, other_followers)
    gains = [
        [harm - other_harm for harm, other_harm in zip(harms[at], other_harms[other_at])]
        for at, other_at in twins
    ]
    return (letters, [(*ones[at], *others[other_at]) for at, other_at in twins], followers, gains)


def twin_graph(one_followers, other_followers):
    """Return the list of the tuples of two spots to which one history leads, and their followers."""
    twins = [(0, 0)]
    places = {(0, 0): 0}
    followers = []
    while len(followers) < len(twins):
        at, other_at = twins[len(followers)]
        row = []
        for twin in zip(one_followers[at], other_followers[other_at]):
            place = places.setdefault(twin, len(twins))
            if place == len(twins):
                twins.append(twin)
            row.append(place)
        followers.append(row)
    return twins, followers


def walk_graph(followers, turns):
    """Return the graph of all walks of possible histories."""
    pairs = [(0, 0)]
    places = {(0, 0): 0}
    ways = [(0, 0)]
    targets = []
    while len(targets) < len(pairs):
        spot, node = pairs[len(targets)]
        row = []
        for letter, behind in enumerate(followers[spot]):
            ends = []
            for target in turns[node][letter]:
                place = places.setdefault((behind, target), len(pairs))
                if place == len(pairs):
                    pairs.append((behind, target))
                    ways.append((len(targets), letter))
                ends.append(place)
            row.append(ends)
        targets.append(row)
    return pairs, targets, ways


def links_of(graph, gains):
    """Return the list, by pairs, of the dicts from each pair that follows to the greatest gain."""
    pairs, targets, _ = graph
    links = []
    for (spot, _), row in zip(pairs, targets):
        best = {}
        for gain, ends in zip(gains[spot], row):
            for end in ends:
                if end not in best or best[end] < gain:
                    best[end] = gain
        links.append(best)
    return links


def farthest(links):
    """Return what walks from each pair gain at most, and the rings that gain without an end.

    One of the two lists is empty. Each turn lets a walk from a pair go on as the best known
    one from a pair that follows. If the walks get better in as many turns as there are pairs,
    they go around a ring by then, and a ring of best ways on always gains.
    """
    worth = [0 for _ in links]
    choices = [None for _ in links]
    better = True
    while better:
        better = False
        # What follows a pair mostly stands behind it, so it is looked at first.
        for at in reversed(range(len(links))):
            most = worth[at]
            for end, gain in links[at].items():
                if gain + worth[end] > most:
                    most = gain + worth[end]
                    choices[at] = end
            if most > worth[at]:
                worth[at] = most
                better = True
        rings = rings_in(choices) if better else []
        if len(rings) > 0:
            return [], rings
    return worth, []


def rings_in(choices):
    """Return the list of the rings of a list of one index, or None, for each index."""
    rings = []
    marks = [None for _ in choices]
    for start in range(len(choices)):
        at = start
        while at is not None and marks[at] is None:
            marks[at] = start
            at = choices[at]
        if at is not None and marks[at] == start:
            rings.append(ring_from(choices, at))
    return rings


def ring_from(choices, start):
    """Return the ring of a list of one index for each index on which one of them lies."""
    ring = [start]
    while choices[ring[-1]] != start:
        ring.append(choices[ring[-1]])
    return ring


def ring_gain(links, ring):
    """Return what one turn of a ring gains."""
    return sum([links[at][end] for at, end in sides_of(ring)])


def sides_of(ring):
    """Return the list of the tuples of each index of a ring and the one behind it."""
    return list(zip(ring, [*ring[1:], ring[0]]))


def ring_histories(field, graph, links, ring):
    """Return the tuple of a history to a ring and of the letters of one turn of it."""
    letters, _, _, gains = field
    pairs, targets, ways = graph
    turn = []
    for at, end in sides_of(ring):
        fitting = [
            letter
            for letter, (gain, ends) in enumerate(zip(gains[pairs[at][0]], targets[at]))
            if end in ends and gain == links[at][end]
        ]
        turn.append(letters[fitting[0]])
    return ([letters[letter] for letter in history_by(ways, ring[0])], turn)


def first_with_worth(graph, gains, worth):
    """Return the least history that gains what the first pair is worth, up to a pair worth 0."""
    pairs, targets, _ = graph
    here = [0]
    history = []
    while worth[here[0]] > 0:
        due = worth[here[0]]
        for letter, gain in enumerate(gains[pairs[here[0]][0]]):
            ends = [end for at in here for end in targets[at][letter] if gain + worth[end] == due]
            if len(ends) > 0:
                history.append(letter)
                # All these pairs have the spot of this history, and the same worth.
                here = sorted(set(ends))
                break
    return history


def gain_from(followers, gains, spot, history):
    """Return what a history of indexes of letters gains from a spot on."""
    total = 0
    for letter in history:
        total = total + gains[spot][letter]
        spot = followers[spot][letter]
    return total


def greatest_gain(field, behaviour):
    """Return the greatest gain of a possible history, or None if there is none."""
    graph = walk_graph(field[2], turns_of(behaviour, len(field[0])))
    worth, rings = farthest(links_of(graph, field[3]))
    return None if len(rings) > 0 else worth[0]


def greatest_history(field, behaviour):
    """Return the first of the shortest possible histories with the greatest gain, or None."""
    letters, _, followers, gains = field
    history = first_greatest(walk_graph(followers, turns_of(behaviour, len(letters))), gains)
    return None if history is None else [letters[letter] for letter in history]


def first_greatest(graph, gains):
    """Return the indexes of the letters of the first of the shortest histories that gain most, or None."""
    # If any history has the greatest gain, one with fewer periods than there are pairs has it,
    # and a ring need not have more. So with gains more times as great than there are pairs,
    # a period less decides only where gains are equal.
    finer = lessened(gains, (1, len(graph[0]) + 1))
    worth, rings = farthest(links_of(graph, finer))
    return None if len(rings) > 0 else first_with_worth(graph, finer, worth)


def growing_ring(field, behaviour):
    """Return a tuple (history, ring) if possible histories gain without an end, or None."""
    graph = walk_graph(field[2], turns_of(behaviour, len(field[0])))
    links = links_of(graph, field[3])
    _, rings = farthest(links)
    return ring_histories(field, graph, links, rings[0]) if len(rings) > 0 else None


def lessened(gains, rate):
    """Return the gains of bottom times each gain, less top, for a rate (top, bottom)."""
    top, bottom = rate
    return [[bottom * gain - top for gain in row] for row in gains]


def worth_table(field, behaviour):
    """Return the ascending list of all pairs with the greatest gain from each of them on, or None.

    Each pair stands there as a tuple of its states, its node and this gain.
    """
    _, spots, followers, gains = field
    graph = walk_graph(followers, turns_of(behaviour, len(field[0])))
    worth, rings = farthest(links_of(graph, gains))
    if len(rings) > 0:
        return None
    return sorted([(*spots[spot], node, most) for (spot, node), most in zip(graph[0], worth)])
