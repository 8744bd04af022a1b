"""Histories counted and numbered, by the words of the states behind them.

Within this file a state stands as its index among those behind all histories. The rows are the
list, by numbers of periods, of the lists, by states, of how many histories of so many periods
lead from a state to one with the word.
"""

from stagedplans.checks import is_from, is_index
from stagedplans.errors import InvalidIndex, InvalidNumber, NoHistory
from stagedplans.periods import state_graph
from stagedplans.plans import check_plan
from stagedplans.signals import all_letters, letter_index
from stagedplans.states import check_letters, check_word


def count_histories(plan, periods, word):
    """Return the number of all histories of a number of periods to states with a word."""
    check_all(plan, periods, word)
    _, rows = counted(plan, periods, word)
    return rows[-1][0]


def nth_history(plan, periods, word, index):
    """Return the history with an index among those of a number of periods to states with a word."""
    check_all(plan, periods, word)
    followers, rows = counted(plan, periods, word)
    if not is_index(index, rows[-1][0]):
        raise InvalidIndex()
    return history_at(all_letters(len(plan[1])), followers, rows, index)


def history_index(plan, word, letters):
    """Return the index of a history among those with as many periods to states with the word."""
    check_plan(plan)
    check_word(word)
    check_letters(plan, letters)
    followers, rows = counted(plan, len(letters), word)
    index = 0
    state = 0
    for letter, row in zip(letters, rows[-2::-1]):
        behind = followers[state]
        place = letter_index(letter)
        index = index + sum([row[at] for at in behind[:place]])
        state = behind[place]
    if rows[0][state] == 0:
        raise NoHistory()
    return index


def histories(plan, periods, word):
    """Yield all histories of a number of periods to states with a word, in ascending order."""
    check_all(plan, periods, word)
    followers, rows = counted(plan, periods, word)
    letters = all_letters(len(plan[1]))
    for index in range(rows[-1][0]):
        yield history_at(letters, followers, rows, index)


def check_all(plan, periods, word):
    """Raise an error for what is no plan, no number of periods, or no word."""
    check_plan(plan)
    if not is_from(periods, 0):
        raise InvalidNumber()
    check_word(word)


def counted(plan, periods, word):
    """Return the followers of all states, and the rows up to a number of periods."""
    listed, followers = state_graph(plan)
    rows = [[1 if state[0] == word else 0 for state in listed]]
    for _ in range(periods):
        row = rows[-1]
        rows.append([sum([row[at] for at in behind]) for behind in followers])
    return followers, rows


def history_at(letters, followers, rows, index):
    """Return the history with an index that has as many periods as the rows tell."""
    history = []
    state = 0
    for row in rows[-2::-1]:
        for letter, behind in zip(letters, followers[state]):
            if index < row[behind]:
                history.append(letter)
                state = behind
                break
            index = index - row[behind]
    return history
