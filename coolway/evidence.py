"""Whether heights, levels and states show what they are given for."""

from coolway.rules import is_done, move_cost, move_results, possible_moves


def is_within(heights, state, most):
    """Return whether a state has a height of at most so much."""
    return state in heights and heights[state] <= most


def is_reached(levels, state, number):
    """Return whether a state has a level of at least so much, if this is greater than 0."""
    return number <= 0 or levels.get(state, 0) >= number


def heights_hold(chart, heights):
    """Return whether each height is enough money for its state."""
    return all([height_holds(chart, heights, state) for state in heights])


def height_holds(chart, heights, state):
    """Return whether the height of a state is enough for a move and the heights after it."""
    height = heights[state]
    if height < 0:
        return False
    if is_done(chart, state):
        return True
    for move in possible_moves(chart, state):
        left = height - move_cost(chart, state, move)
        if are_within(heights, move_results(chart, state, move), left):
            return True
    return False


def are_within(heights, ends, most):
    """Return whether all results have heights of at most so much."""
    return all([end is not None and is_within(heights, end, most) for end in ends])


def levels_hold(chart, levels):
    """Return whether no state can do with less money than its level."""
    # A level of 0 or less claims nothing.
    return all([level_holds(chart, levels, state) for state in levels if levels[state] > 0])


def level_holds(chart, levels, state):
    """Return whether each move in a state spoils the goods, or needs as much as the level of the state."""
    if is_done(chart, state):
        return False
    for move in possible_moves(chart, state):
        ends = move_results(chart, state, move)
        needed = move_cost(chart, state, move) + greatest_level(levels, ends)
        if None not in ends and needed < levels[state]:
            return False
    return True


def greatest_level(levels, ends):
    """Return the greatest level of the results, at least 0."""
    return max([0] + [levels[end] for end in ends if end in levels])


def states_spoil(chart, states):
    """Return whether in each of the states, each move can spoil the goods or lead to such a state."""
    held = {state: True for state in states}
    return all([state_spoils(chart, held, state) for state in held])


def state_spoils(chart, held, state):
    """Return whether each move in a state can spoil the goods or lead to a state that is held."""
    if is_done(chart, state):
        return False
    for move in possible_moves(chart, state):
        ends = move_results(chart, state, move)
        if not any([end is None or end in held for end in ends]):
            return False
    return True
