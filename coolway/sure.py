"""The least money by which the goods surely arrive unspoiled."""

from coolway.evidence import heights_hold, is_reached, is_within, levels_hold, states_spoil
from coolway.maps import check_map, check_state
from coolway.rules import is_done, move_cost, move_results, possible_moves


class Sure:
    """The least money that is surely enough, with heights that show it is, and levels that show no less is."""

    def __init__(self, cost, heights, levels):
        self.cost = cost
        self.heights = {state: heights[state] for state in heights}
        self.levels = {state: levels[state] for state in levels}

    def __eq__(self, other):
        return (
            isinstance(other, Sure)
            and self.cost == other.cost
            and self.heights == other.heights
            and self.levels == other.levels
        )

    def shows(self, chart, state):
        """Return whether cost, heights and levels are right for a state."""
        check_map(chart)
        check_state(chart, state)
        if not is_within(self.heights, state, self.cost) or not is_reached(self.levels, state, self.cost):
            return False
        return heights_hold(chart, self.heights) and levels_hold(chart, self.levels)


class Spoils:
    """States in which something spoils the goods, whatever one does."""

    def __init__(self, states):
        self.states = list(states)

    def __eq__(self, other):
        return isinstance(other, Spoils) and self.states == other.states

    def __iter__(self):
        return iter(self.states)

    def shows(self, chart, state):
        """Return whether the states are right for a state."""
        check_map(chart)
        check_state(chart, state)
        return state in self.states and states_spoil(chart, self.states)


def sure(chart, state):
    """Return a Sure for a state, or a Spoils if no money is enough."""
    check_map(chart)
    check_state(chart, state)
    costs = least_costs(chart, state)
    cost = costs[state]
    if cost is None:
        return Spoils(states_without(costs))
    return Sure(cost, heights_from(costs), levels_up_to(costs, cost))


def sure_cost(chart, state):
    """Return the cost of the Sure for a state, None if no money is enough."""
    check_map(chart)
    check_state(chart, state)
    return least_costs(chart, state)[state]


def least_costs(chart, state):
    """Return a dict from a state and all that can follow it to their least costs, None where nothing is enough."""
    costs = {}
    add_least_cost(chart, state, costs)
    return costs


def add_least_cost(chart, state, costs):
    """Add the least costs of a state and of all that can follow it, as far as they are missing."""
    if state in costs:
        return
    least = 0 if is_done(chart, state) else None
    for move in possible_moves(chart, state):
        ends = move_results(chart, state, move)
        for end in ends:
            if end is not None:
                add_least_cost(chart, end, costs)
        worst = greatest_cost(costs, ends)
        if worst is not None:
            total = move_cost(chart, state, move) + worst
            least = total if least is None else min(least, total)
    costs[state] = least


def greatest_cost(costs, ends):
    """Return the greatest cost of the results, None if nothing is enough for one of them."""
    found = [None if end is None else costs[end] for end in ends]
    return None if None in found else max(found)


def heights_from(costs):
    """Return the dict of the heights that the costs give."""
    return {state: costs[state] for state in costs if costs[state] is not None}


def states_without(costs):
    """Return the list of the states in which no money is enough."""
    return [state for state in costs if costs[state] is None]


def levels_up_to(costs, most):
    """Return the dict of the levels greater than 0 that the costs give, none of them greater than so much."""
    # Where no money is enough, any level is right; the greatest one that is needed is the smallest safe choice.
    levels = {state: most if costs[state] is None else min(most, costs[state]) for state in costs}
    return {state: levels[state] for state in levels if levels[state] > 0}
