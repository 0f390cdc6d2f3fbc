"""Texts of maps and states: how they are written, and reading them again."""

from coolway.errors import BadText
from coolway.kinds import is_between, is_group
from coolway.maps import (
    MOST_PLACES,
    MOST_ROADS,
    Map,
    are_prices,
    check_map,
    check_state,
    is_box,
    is_road,
    is_state,
)

# Elsewhere, other signs count as digits, too.
DIGITS = {"0": 0, "1": 1, "2": 2, "3": 3, "4": 4, "5": 5, "6": 6, "7": 7, "8": 8, "9": 9}
NO_VALUE = -1
STATE_WORDS = ("at", "ice", "warm", "late")


def map_text(chart):
    """Return the text of a map."""
    check_map(chart)
    lines = [line_of("places", (chart.places,))]
    lines.extend([line_of("road", road) for road in chart.roads])
    lines.append(line_of("prices", chart.prices))
    lines.append(line_of("box", chart.box))
    return "".join(lines)


def state_text(chart, state):
    """Return the text of a state."""
    check_map(chart)
    check_state(chart, state)
    return " ".join([f"{word} {part}" for word, part in zip(STATE_WORDS, state)]) + "\n"


def read_map(text):
    """Return the map of a text."""
    *lines, rest = split_lines(text)
    places = values_in(line_at(lines, 0), "places")
    if not is_group(places, 1) or not is_between(places[0], 2, MOST_PLACES):
        raise BadText(0)
    roads = roads_in(lines, places[0])
    row = 1 + len(roads)
    prices = values_in(line_at(lines, row), "prices")
    if not roads or not are_prices(places[0], prices):
        raise BadText(row)
    box = values_in(line_at(lines, row + 1), "box")
    if not is_box(box):
        raise BadText(row + 1)
    if len(lines) > row + 2 or rest:
        raise BadText(row + 2)
    return Map(places[0], roads, prices, box)


def read_state(chart, text):
    """Return the state of a text."""
    check_map(chart)
    *lines, rest = split_lines(text)
    words = line_at(lines, 0).split(" ")
    state = tuple([value_of(word) for word in words[1::2]])
    if tuple(words[::2]) != STATE_WORDS or not is_state(chart, state):
        raise BadText(0)
    if len(lines) > 1 or rest:
        raise BadText(1)
    return state


def line_of(word, values):
    """Return the line of a word and values, with its line feed."""
    return " ".join([word] + ["-" if value is None else str(value) for value in values]) + "\n"


def split_lines(text):
    """Return the list of all lines of a text, and of what follows the last line feed."""
    if not isinstance(text, str):
        raise BadText(0)
    return text.split("\n")


def line_at(lines, row):
    """Return the line in a row; where there is none, it is empty, and so as wrong as any other wrong line."""
    return lines[row] if row < len(lines) else ""


def values_in(line, word):
    """Return the tuple of the values behind a word in a line, without any if the line has another word."""
    words = line.split(" ")
    return tuple([value_of(each) for each in words[1:]]) if words[0] == word else ()


def value_of(word):
    """Return the value of a word; what is no digit and no sign for None has one that is wrong everywhere."""
    return None if word == "-" else DIGITS.get(word, NO_VALUE)


def roads_in(lines, places):
    """Return the tuple of the roads behind the first line, up to the first line that is no road that may follow."""
    roads = ()
    for line in lines[1 : MOST_ROADS + 1]:
        road = values_in(line, "road")
        if not is_road(places, road) or (roads and road <= roads[-1]):
            break
        roads = roads + (road,)
    return roads
