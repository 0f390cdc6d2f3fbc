"""How goods, ice and hours go on: moves and results in states of a map that are checked already."""


def is_done(chart, state):
    """Return whether a state is at the goal."""
    return state[0] == chart.places - 1


def roads_from(chart, place):
    """Return the list of the roads that lead from a place."""
    return [index for index, road in enumerate(chart.roads) if road[0] == place]


def possible_moves(chart, state):
    """Return the list of all moves that are possible in a state, in order."""
    place, ice = state[:2]
    room = chart.box[0]
    most = 0 if chart.prices[place] is None else room - ice
    leading = roads_from(chart, place)
    return [(pieces, road) for pieces in range(most + 1) for road in leading]


def move_cost(chart, state, move):
    """Return what the pieces of a move cost at the place of a state."""
    price = chart.prices[state[0]]
    return 0 if price is None else move[0] * price


def after_hour(ice, warm, melt):
    """Return the ice and the warm hours after one more hour."""
    if ice >= melt:
        return ice - melt, warm
    return 0, warm + 1


def move_results(chart, state, move):
    """Return the list of the results of a move, by the hours that its road is late."""
    ice, warm, late = state[1:]
    bear = chart.box[1]
    pieces, road = move
    place, hours, melt = chart.roads[road][1:]
    ice = ice + pieces
    for _ in range(hours):
        ice, warm = after_hour(ice, warm, melt)
    found = []
    for more in range(late + 1):
        found.append((place, ice, warm, late - more) if warm <= bear else None)
        ice, warm = after_hour(ice, warm, melt)
    return found
