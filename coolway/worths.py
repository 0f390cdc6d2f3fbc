"""What less lateness and more room are worth: the prices of latenesses, also with another room."""

from coolway.maps import MOST_LATE, MOST_ROOM, Map, check_lateness, check_map
from coolway.rules import first_state
from coolway.sure import sure_cost


def late_prices(chart):
    """Return the list of the prices of all latenesses, from 0 on, None where there is none."""
    check_map(chart)
    return [late_price(chart, late) for late in range(MOST_LATE + 1)]


def late_price(chart, late):
    """Return the price of a lateness, None if no money is enough."""
    return sure_cost(chart, first_state(late))


def late_pairs(chart):
    """Return the list of all pairs of a lateness and a price that are just borne."""
    prices = late_prices(chart)
    return [(late, price) for late, price in enumerate(prices) if is_just_borne(prices, late)]


def is_just_borne(prices, late):
    """Return whether a lateness has a price, and the next greater one costs more, or is not there."""
    if prices[late] is None:
        return False
    if late == MOST_LATE or prices[late + 1] is None:
        return True
    return prices[late + 1] > prices[late]


def room_prices(chart, late):
    """Return the list of the prices of a lateness with the rooms from 1 on, None where there is none."""
    check_map(chart)
    check_lateness(late)
    return [late_price(with_room(chart, room), late) for room in range(1, MOST_ROOM + 1)]


def with_room(chart, room):
    """Return the map that is the same, except that its box holds so many pieces."""
    return Map(chart.places, chart.roads, chart.prices, (room, chart.box[1]))
