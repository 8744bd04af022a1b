"""Searches for the first of the shortest histories.

Here a spot is the index of what one history leads to, such as a state, and a letter stands as
its index among all letters. The followers of a spot are the list of the spots behind it by
each letter. The turns of a behaviour are a dict from each node to the list, by letters, of the
lists of the nodes to which an edge leads; a walk goes from spot 0 and node 0 on.
"""


def free_turns(many):
    """Return the turns of the behaviour for which all histories of so many letters are possible."""
    return {0: [[0] for _ in range(many)]}


def first_history(followers, turns, goals):
    """Return the first of the shortest possible histories to a spot that is a goal, or None.

    Each group is what one history leads to: a spot, and the nodes that no history ahead of
    this one leads to with it. The groups stand in the order of their histories, so the first
    one with a goal is it.
    """
    if goals[0]:
        return []
    met = {(0, 0): True}
    groups = [(0, [0])]
    ways = [(0, 0)]
    at = 0
    while at < len(groups):
        spot, nodes = groups[at]
        for letter, behind in enumerate(followers[spot]):
            fresh = [node for node in nodes_behind(turns, nodes, letter) if (behind, node) not in met]
            if len(fresh) == 0:
                continue
            for node in fresh:
                met[(behind, node)] = True
            groups.append((behind, fresh))
            ways.append((at, letter))
            if goals[behind]:
                return history_by(ways, len(groups) - 1)
        at += 1
    return None


def nodes_behind(turns, nodes, letter):
    """Return the ascending list of the nodes to which a letter leads from some nodes."""
    if len(nodes) == 1:
        return turns[nodes[0]][letter]
    return sorted(set([target for node in nodes for target in turns[node][letter]]))


def history_by(ways, at):
    """Return the list of the letters on the way to a place.

    The way to a place but the first one is a tuple of the place ahead of it and a letter.
    """
    letters = []
    while at > 0:
        at, letter = ways[at]
        letters.append(letter)
    return letters[::-1]
