"""How goods, ice and hours go on: moves and results in states of a map that are checked already."""


def first_state(late):
    """Return the state in which the goods begin, with so many hours that may be late."""
    return (0, 0, 0, late)


def is_done(chart, state):
    """Return whether a state is at the goal."""
    return state[0] == chart.places - 1


def roads_from(chart, place):
    """Return the list of the roads that lead from a place."""
    return [index for index, road in enumerate(chart.roads) if road[0] == place]


def possible_moves(chart, state):
    """Return the list of all moves that are possible in a state, in order."""
    return pairs_from(chart, state[0], chart.box[0] - state[1])


def pairs_from(chart, place, most):
    """Return the list of all pairs of at most so many pieces and a road at a place, in order."""
    top = 0 if chart.prices[place] is None else most
    leading = roads_from(chart, place)
    return [(pieces, road) for pieces in range(top + 1) for road in leading]


def move_cost(chart, state, move):
    """Return what the pieces of a move cost at the place of a state."""
    return pieces_cost(chart, state[0], move[0])


def pieces_cost(chart, place, pieces):
    """Return what so many pieces cost at a place; where there is no ice, none are bought."""
    price = chart.prices[place]
    return 0 if price is None else pieces * price


def after_hour(ice, warm, melt):
    """Return the ice and the warm hours after one more hour."""
    if ice >= melt:
        return ice - melt, warm
    return 0, warm + 1


def move_results(chart, state, move):
    """Return the list of the results of a move, by the hours that its road is late."""
    ice, warm, late = state[1:]
    bear = chart.box[1]
    pieces, road = move
    place, hours, melt = chart.roads[road][1:]
    ice = ice + pieces
    for _ in range(hours):
        ice, warm = after_hour(ice, warm, melt)
    found = []
    for more in range(late + 1):
        found.append((place, ice, warm, late - more) if warm <= bear else None)
        ice, warm = after_hour(ice, warm, melt)
    return found
