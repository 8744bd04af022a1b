"""What a period does: the first state, the state behind a period, and the counts in a state."""

from stagedplans.regions import count_at, rank_in
from stagedplans.signals import all_letters


def first_state(plan):
    """Return the state in which a plan begins."""
    return fresh_state(0, (), plan[3])


def fresh_state(stage, dropped, left):
    """Return the state in which a stage begins with an empty stay."""
    return ("open", stage, 0, (), dropped, left)


def next_state(plan, state, letter):
    """Return the state behind one more period."""
    if state[0] != "open":
        return state
    return state_by(plan, rules_of(plan, state[1], state[4]), state, letter)


def last_state(plan, letters):
    """Return the state behind a history."""
    state = first_state(plan)
    for letter in letters:
        state = next_state(plan, state, letter)
    return state


def rules_of(plan, stage, dropped):
    """Return the tuple (hold, kept, needs, guards) of a stage while some regions are dropped.

    Needs that count as held and guards that are passed over are left out; kept is the
    number of the last letters of its stay that the stage keeps between two periods.
    """
    _, hold, needs, guards = plan[2][stage]
    needs_left = [need for need in needs if not is_of_dropped(plan, need, dropped)]
    guards_left = [
        (condition, action)
        for condition, action in guards
        if not is_of_dropped(plan, condition, dropped) and not is_vain(action, dropped)
    ]
    return (hold, kept_letters(plan[2][stage]), needs_left, guards_left)


def kept_letters(stage):
    """Return how many last letters of its stay a stage keeps between two periods."""
    _, _, needs, guards = stage
    windows = [need[3] for need in needs] + [condition[3] for condition, _ in guards]
    return max(windows, default=1) - 1


def state_by(plan, rules, state, letter):
    """Return the state behind one more period of an open state, by the rules for it."""
    _, stage, age, tail, dropped, left = state
    hold, kept, needs, guards = rules
    stay = (*tail, letter)
    action = acting(guards, stay)
    if action is None:
        if age + 1 < hold or not are_met(needs, stay):
            return state_staying(stage, age, hold, stay, kept, dropped, left)
        if stage + 1 < len(plan[2]):
            return fresh_state(stage + 1, dropped, left)
        return ("done", dropped)
    if action[0] == "drop" and len(dropped) + 1 < len(plan[0]):
        return state_staying(stage, age, hold, stay, kept, tuple(sorted([*dropped, action[1]])), left)
    if action[0] == "back" and left > 0:
        return fresh_state(action[1], dropped, left - 1)
    return ("stopped",)


def state_staying(stage, age, hold, stay, kept, dropped, left):
    """Return the open state behind a period with which the stay of a stage goes on."""
    return ("open", stage, min(age + 1, hold - 1), stay[max(0, len(stay) - kept):], dropped, left)


def acting(guards, stay):
    """Return the action of the first guard whose condition holds for a stay, or None."""
    for condition, action in guards:
        if holds(condition, stay):
            return action
    return None


def are_met(needs, stay):
    """Tell whether all needs hold for a stay."""
    for need in needs:
        if not holds(need, stay):
            return False
    return True


def is_of_dropped(plan, condition, dropped):
    """Tell whether the region of a condition's signal is dropped."""
    return plan[1][condition[0]][0] in dropped


def is_vain(action, dropped):
    """Tell whether an action drops a region that is dropped."""
    return action[0] == "drop" and action[1] in dropped


def holds(condition, stay):
    """Tell whether a condition holds for the last letters of a stay."""
    signal, grade, number, window = condition
    return len([letter for letter in stay[-window:] if letter[signal] == grade]) >= number


def counts_in(plan, state):
    """Return the list of the open counts of the regions in a state."""
    regions = plan[0]
    shares = shares_in(plan, state)
    return [count_at(region, share) for region, share in zip(regions, shares)]


def shares_in(plan, state):
    """Return the list of the shares at which the regions are open in a state."""
    regions, _, stages, _ = plan
    if state[0] == "stopped":
        return [0 for _ in regions]
    if state[0] == "done":
        shares = stages[-1][0]
        dropped = state[1]
    else:
        shares = stages[state[1]][0]
        dropped = state[4]
    return [0 if region in dropped else share for region, share in enumerate(shares)]


def is_open_in(plan, state, region, user):
    """Tell whether a region is open to a user in a state."""
    return rank_in(plan[0][region], user) < counts_in(plan, state)[region]


def state_graph(plan):
    """Return the list of the states behind all histories, and of what follows each of them.

    The states stand in the order of their first histories: the shorter one is the first,
    of equally long ones the least. What follows a state is the list of the indexes of the
    states behind it by each letter, in ascending order of the letters.
    """
    letters = all_letters(len(plan[1]))
    listed = [first_state(plan)]
    places = {listed[0]: 0}
    followers = []
    rules = {}
    while len(followers) < len(listed):
        state = listed[len(followers)]
        if state[0] != "open":
            followers.append([len(followers) for _ in letters])
            continue
        frame = (state[1], state[4])
        if frame not in rules:
            rules[frame] = rules_of(plan, state[1], state[4])
        behind = [state_by(plan, rules[frame], state, letter) for letter in letters]
        for found in behind:
            if found not in places:
                places[found] = len(listed)
                listed.append(found)
        followers.append([places[found] for found in behind])
    return listed, followers
