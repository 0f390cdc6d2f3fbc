"""Maps, and the moves and results in their states."""

from coolway.errors import BadLateness, BadMap, BadMove, BadState
from coolway.kinds import is_between, is_group, is_whole
from coolway.rules import move_results, possible_moves

MOST_PLACES = 5
MOST_ROADS = 7
MOST_HOURS = 4
MOST_MELT = 3
MOST_PRICE = 9
MOST_ROOM = 6
MOST_BEAR = 2
MOST_LATE = 4


class Map:
    """Places with roads between them, prices of ice, and a box for ice and goods."""

    def __init__(self, places, roads, prices, box):
        if not is_between(places, 2, MOST_PLACES):
            raise BadMap("PLACES")
        if not are_roads(places, roads):
            raise BadMap("ROADS")
        if not are_prices(places, prices):
            raise BadMap("PRICES")
        if not is_box(box):
            raise BadMap("BOX")
        self._places = places
        self._roads = roads
        self._prices = prices
        self._box = box

    @property
    def places(self):
        """The number of places."""
        return self._places

    @property
    def roads(self):
        """The tuple of the roads, each with two places, hours and melt."""
        return self._roads

    @property
    def prices(self):
        """The tuple of the prices of ice at the places, None where there is none."""
        return self._prices

    @property
    def box(self):
        """The pair of room and bear."""
        return self._box

    def __len__(self):
        return len(self._roads)

    def __eq__(self, other):
        return (
            isinstance(other, Map)
            and self._places == other._places
            and self._roads == other._roads
            and self._prices == other._prices
            and self._box == other._box
        )


def are_roads(places, roads):
    """Return whether roads are as those of a map with so many places."""
    if not isinstance(roads, tuple) or not 1 <= len(roads) <= MOST_ROADS:
        return False
    if not all([is_road(places, road) for road in roads]):
        return False
    return all([roads[at] < roads[at + 1] for at in range(len(roads) - 1)])


def is_road(places, road):
    """Return whether a road is as one of a map with so many places."""
    if not is_group(road, 4):
        return False
    first, second, hours, melt = road
    if not is_between(first, 0, places - 1) or not is_between(second, 0, places - 1):
        return False
    return first < second and is_between(hours, 1, MOST_HOURS) and is_between(melt, 0, MOST_MELT)


def are_prices(places, prices):
    """Return whether prices are as those of a map with so many places."""
    if not is_group(prices, places):
        return False
    return all([price is None or is_between(price, 1, MOST_PRICE) for price in prices])


def is_box(box):
    """Return whether a box is as that of a map."""
    return is_group(box, 2) and is_between(box[0], 1, MOST_ROOM) and is_between(box[1], 0, MOST_BEAR)


def is_state(chart, state):
    """Return whether a value is a state of a map."""
    if not is_group(state, 4):
        return False
    room, bear = chart.box
    tops = (chart.places - 1, room, bear, MOST_LATE)
    return all([is_between(part, 0, top) for part, top in zip(state, tops)])


def is_move(chart, state, move):
    """Return whether a value is a move that is possible in a state."""
    # True and False equal integers, so looking the move up is not enough.
    if not is_group(move, 2) or not is_whole(move[0]) or not is_whole(move[1]):
        return False
    return move in possible_moves(chart, state)


def check_map(chart):
    """Raise BadMap if a value is not a map."""
    if not isinstance(chart, Map):
        raise BadMap(None)


def check_state(chart, state):
    """Raise BadState if a value is not a state of a map."""
    if not is_state(chart, state):
        raise BadState("not a state of the map")


def check_lateness(late):
    """Raise BadLateness if a value is not a lateness."""
    if not is_between(late, 0, MOST_LATE):
        raise BadLateness("not an integer from 0 to 4")


def check_move(chart, state, move):
    """Raise BadMove if a value is not a move that is possible in a state."""
    if not is_move(chart, state, move):
        raise BadMove("not a move that is possible in the state")


def moves(chart, state):
    """Return the list of all moves that are possible in a state, in order."""
    check_map(chart)
    check_state(chart, state)
    return possible_moves(chart, state)


def results(chart, state, move):
    """Return the list of the results of a move, by the hours that its road is late."""
    check_map(chart)
    check_state(chart, state)
    check_move(chart, state, move)
    return move_results(chart, state, move)
