"""What the tests work out by themselves, from the four parts of a map, without the program."""

import random

MOST_MONEY = 9 * 6 * 4


def parts_of(chart):
    return chart.places, chart.roads, chart.prices, chart.box


def own_moves(parts, state):
    places, roads, prices, (room, _) = parts
    place, ice = state[0], state[1]
    if place == places - 1:
        return []
    buys = [0]
    if prices[place] is not None:
        buys = [pieces for pieces in range(room + 1) if ice + pieces <= room]
    return sorted((pieces, index) for pieces in buys for index, road in enumerate(roads) if road[0] == place)


def own_cost(parts, state, move):
    return move[0] * (parts[2][state[0]] or 0)


def own_result(parts, state, move, more):
    _, roads, _, (_, bear) = parts
    _, ice, warm, late = state
    _, place, hours, melt = roads[move[1]]
    ice += move[0]
    hours += more
    if melt > 0:
        cold = min(hours, ice // melt)
        warm += hours - cold
        ice = ice - cold * melt if cold == hours else 0
    return (place, ice, warm, late - more) if warm <= bear else None


def own_results(parts, state, move):
    return [own_result(parts, state, move, more) for more in range(state[3] + 1)]


def all_states(parts):
    places, _, _, (room, bear) = parts
    return [
        (place, ice, warm, late)
        for place in range(places)
        for ice in range(room + 1)
        for warm in range(bear + 1)
        for late in range(5)
    ]


class Search:
    """Asks for each amount of money whether it is enough, and so finds the least one."""

    most = MOST_MONEY

    def __init__(self, parts):
        self.parts = parts
        self.known = {}
        self.ways = {}

    def steps(self, state):
        if state not in self.ways:
            self.ways[state] = [
                (own_cost(self.parts, state, move), set(own_results(self.parts, state, move)))
                for move in own_moves(self.parts, state)
            ]
        return self.ways[state]

    def enough(self, state, money):
        if state is None or money < 0:
            return False
        if state[0] == self.parts[0] - 1:
            return True
        if (state, money) not in self.known:
            self.known[state, money] = any(
                all(self.enough(end, money - cost) for end in ends) for cost, ends in self.steps(state)
            )
        return self.known[state, money]

    def least(self, state):
        if not self.enough(state, self.most):
            return None
        low, high = 0, self.most
        while low < high:
            middle = (low + high) // 2
            if self.enough(state, middle):
                high = middle
            else:
                low = middle + 1
        return low


def right_heights(parts, heights):
    for state, height in heights.items():
        if height < 0:
            return False
        if state[0] == parts[0] - 1:
            continue
        good = [
            move
            for move in own_moves(parts, state)
            if all(
                end in heights and heights[end] + own_cost(parts, state, move) <= height
                for end in own_results(parts, state, move)
            )
        ]
        if not good:
            return False
    return True


def right_levels(parts, levels):
    for state, level in levels.items():
        if level <= 0:
            continue
        if state[0] == parts[0] - 1:
            return False
        for move in own_moves(parts, state):
            ends = own_results(parts, state, move)
            if None in ends:
                continue
            greatest = max(0, max(levels.get(end, 0) for end in ends))
            if own_cost(parts, state, move) + greatest < level:
                return False
    return True


def right_sure(parts, state, cost, heights, levels):
    if state not in heights or heights[state] > cost:
        return False
    if cost > 0 and (state not in levels or levels[state] < cost):
        return False
    return right_heights(parts, heights) and right_levels(parts, levels)


def right_spoils(parts, state, states):
    if state not in states:
        return False
    for at in states:
        if at[0] == parts[0] - 1:
            return False
        for move in own_moves(parts, at):
            if not any(end is None or end in states for end in own_results(parts, at, move)):
                return False
    return True


def some_parts(chance, most_places=5, most_roads=7, most_room=6):
    """Four parts of a map, by chance; mostly so that there is something to pay for."""
    places = chance.randint(2, most_places)
    roads = {}
    for first in range(places - 1):
        if chance.randrange(12):
            roads[(first, first + 1, *some_hours(chance))] = True
    for _ in range(chance.randint(1, most_roads)):
        first = chance.randrange(places - 1)
        roads[(first, chance.randint(first + 1, places - 1), *some_hours(chance))] = True
    roads = chance.sample(sorted(roads), min(most_roads, len(roads)))
    prices = tuple(chance.choice((None, 1, 2, 3, 5, 7, 9)) for _ in range(places))
    room = chance.randint(max(1, most_room - 3), most_room)
    return places, tuple(sorted(roads)), prices, (room, chance.choice((0, 1, 1, 2)))


def some_hours(chance):
    return chance.choice((1, 1, 1, 2, 2, 3, 4)), chance.choice((0, 1, 1, 1, 2, 2, 3))


def many_parts(seed, number, **limits):
    chance = random.Random(seed)
    return [some_parts(chance, **limits) for _ in range(number)]


# Maps at the bounds: as many places, roads and room as there can be.
WIDE = (
    5,
    ((0, 1, 1, 1), (0, 1, 1, 2), (1, 2, 1, 2), (1, 3, 2, 1), (2, 3, 1, 1), (2, 4, 3, 1), (3, 4, 1, 1)),
    (9, 8, 1, 9, None),
    (6, 2),
)
CHAIN = (
    5,
    ((0, 1, 1, 1), (0, 2, 2, 2), (1, 2, 1, 1), (1, 2, 1, 3), (2, 3, 1, 1), (3, 4, 1, 0), (3, 4, 1, 1)),
    (9, 9, 9, 9, 9),
    (6, 2),
)
LONG = (5, ((0, 1, 4, 3), (0, 4, 4, 3), (1, 2, 4, 3), (2, 3, 4, 3), (3, 4, 4, 3)), (9, 9, 9, 9, 9), (6, 2))
FREE = (5, ((0, 1, 4, 0), (1, 2, 4, 0), (2, 3, 4, 0), (3, 4, 4, 0)), (None, None, None, None, None), (1, 0))
BOUNDS = (WIDE, CHAIN, LONG, FREE)
