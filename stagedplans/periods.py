"""What a period does: the first state, the state behind a period, and the counts in a state."""

from stagedplans.regions import count_at, rank_in
from stagedplans.signals import all_letters

STOPPED = ("stopped",)


def first_state(plan):
    """Return the state in which a plan begins."""
    return fresh_state(0, (), plan[3])


def fresh_state(stage, dropped, left):
    """Return the state in which a stage begins with an empty stay."""
    return ("open", stage, 0, (), dropped, left)


def next_state(plan, state, letter):
    """Return the state behind one more period."""
    if state[0] != "open":
        return state
    return state_by(plan, rules_of(plan, state[1], state[4]), state, letter)


def next_states(plan, state, letters):
    """Return the list of the states behind one more period, by each of some letters."""
    if state[0] != "open":
        return [state for _ in letters]
    return states_by(plan, rules_of(plan, state[1], state[4]), state, letters)


def last_state(plan, letters):
    """Return the state behind a history."""
    return states_along(plan, first_state(plan), letters)[-1]


def states_along(plan, state, letters):
    """Return the list of a state and the states behind each of some letters that follow it."""
    along = [state]
    rules = {}
    for letter in letters:
        if state[0] == "open":
            frame = (state[1], state[4])
            if frame not in rules:
                rules[frame] = rules_of(plan, state[1], state[4])
            state = state_by(plan, rules[frame], state, letter)
        along.append(state)
    return along


def stays_on(state, behind):
    """Tell whether the stay of an open state goes on in the state behind it."""
    # Any other period leads to the next stage, or takes a try.
    return behind[0] == "open" and behind[1] == state[1] and behind[5] == state[5]


def frame_of(state):
    """Return what tells the counts in a state: its stage and its dropped regions, or a state that is not open."""
    return (state[1], state[4]) if state[0] == "open" else state


def rules_of(plan, stage, dropped):
    """Return the tuple (hold, kept, needs, guards) of a stage while some regions are dropped.

    Needs that count as held and guards that are passed over are left out; kept is the
    number of the last letters of its stay that the stage keeps between two periods.
    """
    _, hold, needs, guards = plan[2][stage]
    kept = kept_letters(plan[2][stage])
    if len(dropped) == 0:
        return (hold, kept, needs, guards)
    needs_left = [need for need in needs if not is_of_dropped(plan, need, dropped)]
    guards_left = [
        (condition, action)
        for condition, action in guards
        if not is_of_dropped(plan, condition, dropped) and not is_vain(action, dropped)
    ]
    return (hold, kept, needs_left, guards_left)


def kept_letters(stage):
    """Return how many last letters of its stay a stage keeps between two periods."""
    _, _, needs, guards = stage
    return max([1, *[need[3] for need in needs], *[condition[3] for condition, _ in guards]]) - 1


def state_by(plan, rules, state, letter):
    """Return the state behind one more period of an open state, by the rules for it."""
    _, stage, age, tail, dropped, left = state
    hold, kept, needs, guards = rules
    stay = (*tail, letter)
    for condition, action in guards:
        if holds(condition, stay):
            fixed, dropped = outcome_of(plan, state, action)
            return state_staying(stage, age, hold, stay, kept, dropped, left) if fixed is None else fixed
    if age + 1 < hold:
        return state_staying(stage, age, hold, stay, kept, dropped, left)
    for need in needs:
        if not holds(need, stay):
            return state_staying(stage, age, hold, stay, kept, dropped, left)
    return state_passing(plan, stage, dropped, left)


def state_staying(stage, age, hold, stay, kept, dropped, left):
    """Return the open state behind a period with which the stay of a stage goes on."""
    return ("open", stage, min(age + 1, hold - 1), stay[max(0, len(stay) - kept):], dropped, left)


def state_passing(plan, stage, dropped, left):
    """Return the state behind a stage that has been passed."""
    if stage + 1 < len(plan[2]):
        return fresh_state(stage + 1, dropped, left)
    return ("done", dropped)


def outcome_of(plan, state, action):
    """Return what an action leads to: a state, or None if the stay goes on, and the dropped regions."""
    dropped, left = state[4], state[5]
    if action[0] == "drop" and len(dropped) + 1 < len(plan[0]):
        return None, tuple(sorted([*dropped, action[1]]))
    if action[0] == "back" and left > 0:
        return fresh_state(action[1], dropped, left - 1), dropped
    return STOPPED, dropped


def is_of_dropped(plan, condition, dropped):
    """Tell whether the region of a condition's signal is dropped."""
    return plan[1][condition[0]][0] in dropped


def is_vain(action, dropped):
    """Tell whether an action drops a region that is dropped."""
    return action[0] == "drop" and action[1] in dropped


def holds(condition, stay):
    """Tell whether a condition holds for the last letters of a stay."""
    signal, grade, number, window = condition
    many = 0
    for letter in stay[-window:]:
        if letter[signal] == grade:
            many += 1
    return many >= number


def lacking(condition, tail):
    """Return how many letters behind a tail have to be of its grade till a condition holds."""
    signal, grade, number, window = condition
    for letter in tail[max(0, len(tail) - window + 1):]:
        if letter[signal] == grade:
            number -= 1
    return number


def states_by(plan, rules, state, letters):
    """Return the list of the states behind one more period of an open state, by each of some letters.

    The tail is looked at once for all letters: a condition holds behind each of them, behind
    those of its grade, or behind none.
    """
    _, stage, age, tail, dropped, left = state
    hold, kept, needs, guards = rules
    cases = []
    for condition, action in guards:
        due = lacking(condition, tail)
        if due <= 1:
            cases.append((due, condition[0], condition[1], *outcome_of(plan, state, action)))
    dues = [(lacking(need, tail), need[0], need[1]) for need in needs]
    hopeless = age + 1 < hold or max([1, *[due for due, _, _ in dues]]) > 1
    passing = None if hopeless else state_passing(plan, stage, dropped, left)
    dues = [row for row in dues if row[0] == 1]
    older = min(age + 1, hold - 1)
    short = tail[max(0, len(tail) + 1 - kept):] if kept > 0 else ()
    behind = []
    for letter in letters:
        end, out = passing, dropped
        for due, signal, grade, fixed, dropping in cases:
            if due <= 0 or letter[signal] == grade:
                end, out = fixed, dropping
                break
        else:
            for _, signal, grade in dues:
                if letter[signal] != grade:
                    end = None
                    break
        if end is None:
            end = ("open", stage, older, (*short, letter) if kept > 0 else (), out, left)
        behind.append(end)
    return behind


def counts_in(plan, state):
    """Return the list of the open counts of the regions in a state."""
    regions = plan[0]
    shares = shares_in(plan, state)
    return [count_at(region, share) for region, share in zip(regions, shares)]


def shares_in(plan, state):
    """Return the list of the shares at which the regions are open in a state."""
    regions, _, stages, _ = plan
    if state[0] == "stopped":
        return [0 for _ in regions]
    if state[0] == "done":
        shares = stages[-1][0]
        dropped = state[1]
    else:
        shares = stages[state[1]][0]
        dropped = state[4]
    return [0 if region in dropped else share for region, share in enumerate(shares)]


def is_open_in(plan, state, region, user):
    """Tell whether a region is open to a user in a state."""
    return rank_in(plan[0][region], user) < counts_in(plan, state)[region]


def state_graph(plan):
    """Return the list of the states behind all histories, and of what follows each of them.

    The states stand in the order of their first histories: the shorter one is the first,
    of equally long ones the least. What follows a state is the list of the indexes of the
    states behind it by each letter, in ascending order of the letters.
    """
    return graph_from(plan, [first_state(plan)])


def graph_from(plan, starts):
    """Return the list of the states to which some different ones lead, those at first, and of what follows each."""
    letters = all_letters(len(plan[1]))
    listed = list(starts)
    places = {state: at for at, state in enumerate(listed)}
    followers = []
    rules = {}
    while len(followers) < len(listed):
        state = listed[len(followers)]
        if state[0] != "open":
            followers.append([len(followers) for _ in letters])
            continue
        frame = (state[1], state[4])
        if frame not in rules:
            rules[frame] = rules_of(plan, state[1], state[4])
        row = []
        for behind in states_by(plan, rules[frame], state, letters):
            at = places.setdefault(behind, len(listed))
            if at == len(listed):
                listed.append(behind)
            row.append(at)
        followers.append(row)
    return listed, followers
