"""Outputs of states, and the first history behind which those of two plans differ."""

from stagedplans.periods import counts_in, first_state, frame_of, graph_from, next_states
from stagedplans.searches import history_by
from stagedplans.signals import all_letters


def output_of(plan, state):
    """Return the output of a state."""
    return (state[0], tuple(counts_in(plan, state)))


def outputs_of(plan, listed):
    """Return the list of the outputs of some states."""
    known = {}
    for state in listed:
        frame = frame_of(state)
        if frame not in known:
            known[frame] = output_of(plan, state)
    return [known[frame_of(state)] for state in listed]


def told_from(plan, start):
    """Return the followers and the outputs of the states to which a state leads, itself at first."""
    listed, followers = graph_from(plan, [start])
    return followers, outputs_of(plan, listed)


def are_like(one, other):
    """Tell whether two plans with the same numbers of regions and of signals are alike."""
    return one == other or is_like(told_from(one, first_state(one)), other)


def is_like(told, plan):
    """Tell whether a plan has the outputs that are told from the first state of another one."""
    return first_apart(told, plan, first_state(plan)) is None


def first_apart(told, plan, start):
    """Return the indexes of the letters of the first of the shortest histories with other outputs, or None.

    What is told from a state of another plan is compared with this plan from a state on. Two
    states to which one history leads are put into one group, as Hopcroft and Karp do. If the
    outputs differ behind two states of a group, they differ as soon behind two that were put
    into it by a history ahead of this one, so what follows states of one group is left out.
    """
    followers, outputs = told
    if outputs[0] != output_of(plan, start):
        return []
    letters = all_letters(len(plan[1]))
    listed = [start]
    places = {start: 0}
    rows = {}
    parents = list(range(len(followers) + 1))
    twins = [(0, 0)]
    ways = [(0, 0)]
    at = 0
    while at < len(twins):
        spot, twin = twins[at]
        if twin not in rows:
            rows[twin] = next_states(plan, listed[twin], letters)
        for letter, (behind, state) in enumerate(zip(followers[spot], rows[twin])):
            place = places.setdefault(state, len(listed))
            if place == len(listed):
                listed.append(state)
                parents.append(len(parents))
            root, other_root = root_of(parents, behind), root_of(parents, len(followers) + place)
            if root != other_root:
                parents[other_root] = root
                twins.append((behind, place))
                ways.append((at, letter))
                if outputs[behind] != output_of(plan, state):
                    return history_by(ways, len(ways) - 1)
        at += 1
    return None


def root_of(parents, at):
    """Return the index at which the way from an index to its parent, and so on, ends."""
    while parents[at] != at:
        at = parents[at]
    return at
