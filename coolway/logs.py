"""Logs: moves that were made, and how late their roads were."""

from coolway.errors import BadLog
from coolway.kinds import is_between, is_group
from coolway.maps import check_map, check_state, is_move
from coolway.rules import move_cost, move_results

MOST_PAIRS = 12


def after_log(chart, state, log):
    """Return the state after a log."""
    return states_with(chart, state, log)[-1]


def spent(chart, state, log):
    """Return the list of the costs of the moves of a log."""
    states = states_with(chart, state, log)
    return [move_cost(chart, before, pair[0]) for before, pair in zip(states, log)]


def melted(chart, state, log):
    """Return the list of how many pieces less of ice there are at the end of each road, from after the buying."""
    states = states_with(chart, state, log)
    return [before[1] + pair[0][0] - after[1] for before, pair, after in zip(states, log, states[1:])]


def states_with(chart, state, log):
    """Return the list of a state and of those after each pair of a log; raise the error for what is wrong first."""
    check_map(chart)
    check_state(chart, state)
    return [state] + states_after(chart, state, log)


def states_after(chart, state, log):
    """Return the list of the states after each pair of a log; raise BadLog if it is none from the state."""
    if not isinstance(log, (list, tuple)) or len(log) > MOST_PAIRS:
        raise BadLog(None)
    found = []
    for index, pair in enumerate(log):
        state = state_after(chart, state, pair)
        if state is None:
            raise BadLog(index)
        found.append(state)
    return found


def state_after(chart, state, pair):
    """Return the state after a pair, None if it is no pair of a log there, or if the goods are spoiled."""
    if state is None or not is_group(pair, 2):
        return None
    move, more = pair
    if not is_move(chart, state, move) or not is_between(more, 0, state[3]):
        return None
    return move_results(chart, state, move)[more]
