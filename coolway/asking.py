"""What it is worth to ask how late a road is before one takes it."""

from coolway.errors import BadFee
from coolway.evidence import heights_hold, is_reached, is_within, levels_hold
from coolway.kinds import is_between
from coolway.maps import check_lateness, check_map, check_state
from coolway.rules import first_state, is_done, move_cost, move_results, possible_moves, roads_from
from coolway.sure import Spoils, heights_from, least_costs, levels_up_to, states_without

MOST_FEE = 9


class Asked:
    """The least money that is surely enough for one who may ask, with heights and levels that show it."""

    def __init__(self, cost, heights, levels):
        self.cost = cost
        self.heights = {state: heights[state] for state in heights}
        self.levels = {state: levels[state] for state in levels}

    def __eq__(self, other):
        return (
            isinstance(other, Asked)
            and self.cost == other.cost
            and self.heights == other.heights
            and self.levels == other.levels
        )

    def shows(self, chart, state, fee):
        """Return whether cost, heights and levels are right for a state and a fee."""
        check_asking(chart, state, fee)
        if not is_within(self.heights, state, self.cost) or not is_reached(self.levels, state, self.cost):
            return False
        return asked_heights_hold(chart, fee, self.heights) and asked_levels_hold(chart, fee, self.levels)


class Helps:
    """A number that is enough with asking, as heights show, but not without, as levels show."""

    def __init__(self, number, heights, levels):
        self.number = number
        self.heights = {state: heights[state] for state in heights}
        self.levels = {state: levels[state] for state in levels}

    def __eq__(self, other):
        return (
            isinstance(other, Helps)
            and self.number == other.number
            and self.heights == other.heights
            and self.levels == other.levels
        )

    def shows(self, chart, state, fee):
        """Return whether number, heights and levels are right for a state and a fee."""
        check_asking(chart, state, fee)
        if not is_within(self.heights, state, self.number) or not is_reached(self.levels, state, self.number + 1):
            return False
        return asked_heights_hold(chart, fee, self.heights) and levels_hold(chart, self.levels)


class Idle:
    """A number that is enough without asking, as heights show, and less is not with it, as levels show."""

    def __init__(self, number, heights, levels):
        self.number = number
        self.heights = {state: heights[state] for state in heights}
        self.levels = {state: levels[state] for state in levels}

    def __eq__(self, other):
        return (
            isinstance(other, Idle)
            and self.number == other.number
            and self.heights == other.heights
            and self.levels == other.levels
        )

    def shows(self, chart, state, fee):
        """Return whether number, heights and levels are right for a state and a fee."""
        check_asking(chart, state, fee)
        if not is_within(self.heights, state, self.number) or not is_reached(self.levels, state, self.number):
            return False
        return heights_hold(chart, self.heights) and asked_levels_hold(chart, fee, self.levels)


def with_asking(chart, state, fee):
    """Return an Asked for a state and a fee, or a Spoils if no money is enough."""
    check_asking(chart, state, fee)
    costs = asked_costs(chart, state, fee)
    cost = costs[state]
    if cost is None:
        return Spoils(states_without(costs))
    return Asked(cost, heights_from(costs), levels_up_to(costs, cost))


def asked_cost(chart, state, fee):
    """Return the cost of the Asked for a state and a fee, None for a Spoils."""
    check_asking(chart, state, fee)
    return asked_costs(chart, state, fee)[state]


def judge_asking(chart, state, fee):
    """Return a Helps or an Idle for a state and a fee, or a Spoils if no money is enough."""
    check_asking(chart, state, fee)
    asked, costs = asked_costs(chart, state, fee), least_costs(chart, state)
    cost, number = costs[state], asked[state]
    if cost is None:
        return Spoils(states_without(costs))
    if number < cost:
        return Helps(number, heights_from(asked), levels_up_to(costs, cost))
    return Idle(cost, heights_from(costs), levels_up_to(asked, number))


def does_help(chart, state, fee):
    """Return whether asking helps in a state for a fee."""
    return isinstance(judge_asking(chart, state, fee), Helps)


def greatest_fee(chart, late):
    """Return the greatest fee with which asking helps at the beginning of a lateness, None if there is none."""
    check_map(chart)
    check_lateness(late)
    found = None
    # With a greater fee, no less money is enough.
    for fee in range(MOST_FEE + 1):
        if not does_help(chart, first_state(late), fee):
            return found
        found = fee
    return found


def check_asking(chart, state, fee):
    """Raise the error for the first of map, state and fee that is wrong."""
    check_map(chart)
    check_state(chart, state)
    if not is_between(fee, 0, MOST_FEE):
        raise BadFee("not an integer from 0 to 9")


def asked_costs(chart, state, fee):
    """Return a dict from a state and all that can follow it to their least costs for one who may ask, None as ever."""
    costs = {}
    add_asked_cost(chart, fee, state, costs)
    return costs


def add_asked_cost(chart, fee, state, costs):
    """Add the least costs with asking of a state and of all that can follow it, as far as they are missing."""
    if state in costs:
        return
    for move in possible_moves(chart, state):
        for end in move_results(chart, state, move):
            if end is not None:
                add_asked_cost(chart, fee, end, costs)
    costs[state] = 0 if is_done(chart, state) else needed_asking(chart, fee, state, costs, None)


def needed_asking(chart, fee, state, worths, missing):
    """Return the least money for a state if its results need as much as their worths, None if nothing is enough."""
    ways = ways_from(chart, state, worths, missing)
    found = [least([greatest(totals) for _, totals in ways])]
    for road in roads_from(chart, state[0]):
        needed = needed_behind(ways, road, state[3])
        found.append(None if needed is None else fee + needed)
    return least(found)


def ways_from(chart, state, worths, missing):
    """Return the list of the roads of all moves in a state, each with the list of what its results need in all."""
    found = []
    for move in possible_moves(chart, state):
        cost = move_cost(chart, state, move)
        needed = [None if end is None else worths.get(end, missing) for end in move_results(chart, state, move)]
        found.append((move[1], [None if worth is None else cost + worth for worth in needed]))
    return found


def needed_behind(ways, asked, late):
    """Return the money that is enough for each answer how late a road is, the fee left out, None if nothing is."""
    other = least([greatest(totals) for road, totals in ways if road != asked])
    answers = []
    for more in range(late + 1):
        answers.append(least([other] + [totals[more] for road, totals in ways if road == asked]))
    return greatest(answers)


def least(amounts):
    """Return the least of some amounts of money, None if nothing is enough; None stands for more than any amount."""
    return min([amount for amount in amounts if amount is not None], default=None)


def greatest(amounts):
    """Return the greatest of some amounts of money; None stands for more than any amount."""
    return None if None in amounts else max(amounts)


def asked_heights_hold(chart, fee, heights):
    """Return whether each height is enough money for its state for one who may ask."""
    return all([asked_height_holds(chart, fee, heights, state) for state in heights])


def asked_height_holds(chart, fee, heights, state):
    """Return whether the height of a state is enough for a move, perhaps behind an answer, and the heights after it."""
    height = heights[state]
    if height < 0 or is_done(chart, state):
        return height >= 0
    needed = needed_asking(chart, fee, state, heights, None)
    return needed is not None and needed <= height


def asked_levels_hold(chart, fee, levels):
    """Return whether no state can do with less money than its level for one who may ask."""
    # A level of 0 or less claims nothing.
    positive = {state: levels[state] for state in levels if levels[state] > 0}
    return all([asked_level_holds(chart, fee, positive, state) for state in positive])


def asked_level_holds(chart, fee, levels, state):
    """Return whether all that one can do in a state, asking or not, spoils the goods or needs as much as its level."""
    if is_done(chart, state):
        return False
    needed = needed_asking(chart, fee, state, levels, 0)
    return needed is None or needed >= levels[state]
