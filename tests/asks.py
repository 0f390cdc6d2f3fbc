"""What the tests work out by themselves about asking, without the program."""

import random

from search import MOST_MONEY, Search, own_cost, own_moves, own_result, own_results, right_heights, right_levels


def own_leading(parts, state):
    return [index for index, road in enumerate(parts[1]) if road[0] == state[0] != parts[0] - 1]


def own_behind(parts, state, move, asked, more):
    """The results of a move behind the answer that a road is so many hours late."""
    if move[1] == asked:
        return [own_result(parts, state, move, more)]
    return own_results(parts, state, move)


class AskSearch(Search):
    """Asks for each amount of money whether it is enough for one who may ask, and so finds the least one."""

    # A fee can be paid once before each of four moves.
    most = MOST_MONEY + 4 * 9

    def __init__(self, parts, fee):
        super().__init__(parts)
        self.fee = fee

    def steps(self, state):
        """For no question, and for each question and each answer: the costs and the results of all moves."""
        if state not in self.ways:
            moves = own_moves(self.parts, state)
            costs = [own_cost(self.parts, state, move) for move in moves]
            plain = [(cost, own_results(self.parts, state, move)) for cost, move in zip(costs, moves)]
            asking = [
                [
                    [(self.fee + cost, own_behind(self.parts, state, move, road, more)) for cost, move in zip(costs, moves)]
                    for more in range(state[3] + 1)
                ]
                for road in own_leading(self.parts, state)
            ]
            self.ways[state] = [[plain]] + asking
        return self.ways[state]

    def enough(self, state, money):
        if state is None or money < 0:
            return False
        if state[0] == self.parts[0] - 1:
            return True
        if (state, money) not in self.known:
            self.known[state, money] = any(
                all(any(all(self.enough(end, money - cost) for end in ends) for cost, ends in moves) for moves in answers)
                for answers in self.steps(state)
            )
        return self.known[state, money]


def right_asked_heights(parts, fee, heights):
    for state, height in heights.items():
        if height < 0:
            return False
        if state[0] == parts[0] - 1:
            continue

        def is_within(move, ends, extra):
            cost = own_cost(parts, state, move) + extra
            return all(end is not None and end in heights and heights[end] + cost <= height for end in ends)

        moves = own_moves(parts, state)
        if any(is_within(move, own_results(parts, state, move), 0) for move in moves):
            continue
        good = [
            road
            for road in own_leading(parts, state)
            if all(
                any(is_within(move, own_behind(parts, state, move, road, more), fee) for move in moves)
                for more in range(state[3] + 1)
            )
        ]
        if not good:
            return False
    return True


def right_asked_levels(parts, fee, levels):
    for state, level in levels.items():
        if level <= 0:
            continue
        if state[0] == parts[0] - 1:
            return False

        def is_reached(move, ends, extra):
            return None in ends or own_cost(parts, state, move) + extra + max([0] + [levels.get(end, 0) for end in ends]) >= level

        moves = own_moves(parts, state)
        if not all(is_reached(move, own_results(parts, state, move), 0) for move in moves):
            return False
        for road in own_leading(parts, state):
            if not any(
                all(is_reached(move, own_behind(parts, state, move, road, more), fee) for move in moves)
                for more in range(state[3] + 1)
            ):
                return False
    return True


def right_asked(parts, state, fee, cost, heights, levels):
    if heights.get(state, cost + 1) > cost or cost > 0 and levels.get(state, 0) < cost:
        return False
    return right_asked_heights(parts, fee, heights) and right_asked_levels(parts, fee, levels)


def right_helps(parts, state, fee, number, heights, levels):
    if heights.get(state, number + 1) > number or state not in levels or levels[state] <= number:
        return False
    return right_asked_heights(parts, fee, heights) and right_levels(parts, levels)


def right_idle(parts, state, fee, number, heights, levels):
    if heights.get(state, number + 1) > number or number > 0 and levels.get(state, 0) < number:
        return False
    return right_heights(parts, heights) and right_asked_levels(parts, fee, levels)


def steep_parts(chance):
    """Four parts of a map by chance; ice gets cheaper and melts faster along the way, so that it may help to ask."""
    places = chance.randint(3, 4)
    roads = {(first, first + 1, chance.choice((1, 1, 2)), min(3, first + chance.randint(1, 2))): True for first in range(places - 1)}
    for _ in range(chance.randint(0, 2)):
        first = chance.randrange(places - 1)
        roads[(first, first + 1, chance.randint(1, 3), chance.randint(1, 2))] = True
    prices = (chance.randint(5, 9), *(chance.choice((1, 1, 2, 3)) for _ in range(places - 2)), None)
    return places, tuple(sorted(roads)), prices, (chance.choice((5, 6, 6)), chance.choice((0, 0, 1, 2)))


def many_steep_parts(seed, number):
    chance = random.Random(seed)
    return [steep_parts(chance) for _ in range(number)]
