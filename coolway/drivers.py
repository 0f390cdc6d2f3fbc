"""Drivers: fixed rules which move to make, and whether the goods arrive by them whatever is late."""

from coolway.errors import BadDriver
from coolway.evidence import are_within, is_within
from coolway.kinds import is_between
from coolway.maps import check_map, check_state
from coolway.rules import is_done, move_cost, move_results, roads_from

DRIVERS = ("bare", "safe", "fill", "thrifty")


class Arrives:
    """The greatest cost of a driver, with delays by which it pays so much, and heights that show it pays no more."""

    def __init__(self, cost, delays, heights):
        self.cost = cost
        self.delays = delays
        self.heights = {state: heights[state] for state in heights}

    def __eq__(self, other):
        return (
            isinstance(other, Arrives)
            and self.cost == other.cost
            and self.delays == other.delays
            and self.heights == other.heights
        )

    def shows(self, chart, state, driver):
        """Return whether cost, delays and heights are right for a state and a driver."""
        check_judging(chart, state, driver)
        if not is_within(self.heights, state, self.cost):
            return False
        told = after_delays(chart, state, driver, self.delays)
        if told is None or told[0] != self.cost or told[1] is None or not is_done(chart, told[1]):
            return False
        return driver_heights_hold(chart, driver, self.heights)


class Fails:
    """Delays at whose end the goods are spoiled, or at a place from which no road leads."""

    def __init__(self, delays):
        self.delays = delays

    def __eq__(self, other):
        return isinstance(other, Fails) and self.delays == other.delays

    def shows(self, chart, state, driver):
        """Return whether the delays are right for a state and a driver."""
        check_judging(chart, state, driver)
        told = after_delays(chart, state, driver, self.delays)
        return told is not None and is_failure(chart, told[1])


def next_move(chart, state, driver):
    """Return the move of a driver in a state, None if the state is done or no road leads on."""
    check_judging(chart, state, driver)
    return driver_move(chart, state, driver)


def judge(chart, state, driver):
    """Return an Arrives for a state and a driver, or a Fails."""
    check_judging(chart, state, driver)
    runs = runs_from(chart, state, driver)
    fatal = [run[0] for run in runs if is_failure(chart, run[2])]
    if fatal:
        return Fails(fatal[0])
    delays, cost, _ = max(runs, key=lambda run: run[1])
    heights = {}
    add_heights(chart, state, driver, heights)
    return Arrives(cost, delays, heights)


def driver_cost(chart, state, driver):
    """Return the cost of the Arrives for a state and a driver, None for a Fails."""
    found = judge(chart, state, driver)
    return found.cost if isinstance(found, Arrives) else None


def check_driver(driver):
    """Raise BadDriver if a value is not one of the words for drivers."""
    if not isinstance(driver, str) or driver not in DRIVERS:
        raise BadDriver("not one of the words for drivers")


def check_judging(chart, state, driver):
    """Raise the error for the first of map, state and driver that is wrong."""
    check_map(chart)
    check_state(chart, state)
    check_driver(driver)


def driver_move(chart, state, driver):
    """Return the move of a driver in a state, None if no road leads from its place."""
    leading = roads_from(chart, state[0])
    if not leading:
        return None
    road = min([(road_melt(chart, road, 0), road) for road in leading])[1]
    return pieces_bought(chart, state, driver, road), road


def road_melt(chart, road, more):
    """Return how much ice melts on a road that takes so many hours more."""
    hours, melt = chart.roads[road][2:]
    return (hours + more) * melt


def pieces_bought(chart, state, driver, road):
    """Return how many pieces a driver buys in a state before it takes a road."""
    place, ice = state[:2]
    if chart.prices[place] is None:
        return 0
    wanted = min(pieces_wanted(chart, state, driver, road), chart.box[0])
    return max(0, wanted - ice)


def pieces_wanted(chart, state, driver, road):
    """Return how many pieces a driver wants in the box on a road, at a place where there is ice."""
    if driver == "bare":
        return road_melt(chart, road, 0)
    if driver == "fill" or (driver == "thrifty" and is_dearer_behind(chart, road)):
        return chart.box[0]
    return road_melt(chart, road, state[3])


def is_dearer_behind(chart, road):
    """Return whether there is no ice where a road leads, or it costs more than where the road begins."""
    here, there = [chart.prices[place] for place in chart.roads[road][:2]]
    return there is None or there > here


def is_failure(chart, end):
    """Return whether the goods are spoiled, or at a place from which no road leads and which is not the goal."""
    if end is None:
        return True
    return not is_done(chart, end) and not roads_from(chart, end[0])


def runs_from(chart, state, driver):
    """Return the list of all delays from a state, in order, each with the cost and the end; None is spoiled."""
    move = None if state is None else driver_move(chart, state, driver)
    if move is None:
        return [((), 0, state)]
    cost = move_cost(chart, state, move)
    found = []
    for more, end in enumerate(move_results(chart, state, move)):
        found.extend([((more, *delays), cost + paid, last) for delays, paid, last in runs_from(chart, end, driver)])
    return found


def add_heights(chart, state, driver, heights):
    """Add the greatest costs of a state and of all that can follow it, as far as they are missing."""
    if state in heights:
        return
    move = driver_move(chart, state, driver)
    if move is None:
        heights[state] = 0
        return
    ends = move_results(chart, state, move)
    for end in ends:
        add_heights(chart, end, driver, heights)
    heights[state] = move_cost(chart, state, move) + max([heights[end] for end in ends])


def after_delays(chart, state, driver, delays):
    """Return the cost and the end (None is spoiled) with delays of a driver, None alone if they are no such delays."""
    if not isinstance(delays, tuple):
        return None
    paid = 0
    for more in delays:
        move = None if state is None else driver_move(chart, state, driver)
        if move is None or not is_between(more, 0, state[3]):
            return None
        paid += move_cost(chart, state, move)
        state = move_results(chart, state, move)[more]
    return paid, state


def driver_heights_hold(chart, driver, heights):
    """Return whether each height is enough money for its state and a driver."""
    return all([driver_height_holds(chart, driver, heights, state) for state in heights])


def driver_height_holds(chart, driver, heights, state):
    """Return whether the height of a state is enough for the move of a driver and the heights after it."""
    height = heights[state]
    if height < 0:
        return False
    if is_done(chart, state):
        return True
    move = driver_move(chart, state, driver)
    if move is None:
        return False
    return are_within(heights, move_results(chart, state, move), height - move_cost(chart, state, move))
