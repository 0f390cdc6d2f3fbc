"""What the tests work out by themselves about plans and drivers, without the program."""

from itertools import product

from search import MOST_MONEY, Search, own_cost, own_result


def start(late):
    return (0, 0, 0, late)


def own_price(parts, late):
    return Search(parts).least(start(late))


def own_paths(parts, place=0):
    places, roads, _, _ = parts
    if place == places - 1:
        return [()]
    return [
        (index, *rest) for index, road in enumerate(roads) if road[0] == place for rest in own_paths(parts, road[1])
    ]


def own_buys(parts, path):
    _, roads, prices, (room, _) = parts
    return [range(room + 1) if prices[roads[index][0]] is not None else range(1) for index in path]


def own_number(parts):
    total = 0
    for path in own_paths(parts):
        number = 1
        for buys in own_buys(parts, path):
            number *= len(buys)
        total += number
    return total


def own_plan_cost(parts, plan):
    return sum(pieces * (parts[2][parts[1][index][0]] or 0) for pieces, index in plan)


def own_plans(parts):
    found = [
        tuple(zip(pieces, path)) for path in own_paths(parts) for pieces in product(*own_buys(parts, path))
    ]
    return sorted(sorted(found), key=lambda plan: own_plan_cost(parts, plan))


def own_delays(size, late):
    return [delay for delay in product(range(late + 1), repeat=size) if sum(delay) <= late]


def own_plan_end(parts, plan, late, delay):
    state = start(late)
    for (pieces, index), more in zip(plan, delay):
        state = own_result(parts, state, (min(pieces, parts[3][0] - state[1]), index), more)
        if state is None:
            break
    return state


def own_spoiling(parts, plan, late):
    for delay in own_delays(len(plan), late):
        if own_plan_end(parts, plan, late, delay) is None:
            return delay
    return None


def own_fixed_cost(parts, late):
    costs = [own_plan_cost(parts, plan) for plan in own_plans(parts) if own_spoiling(parts, plan, late) is None]
    return min(costs, default=None)


def right_doubts(parts, late, doubts, plans):
    if set(doubts) != set(plans):
        return False
    return all(
        doubts[plan] in own_delays(len(plan), late) and own_plan_end(parts, plan, late, doubts[plan]) is None
        for plan in plans
    )


def right_fixed(parts, late, plan, doubts):
    plans = own_plans(parts)
    if plan not in plans or own_spoiling(parts, plan, late) is not None:
        return False
    most = own_plan_cost(parts, plan)
    return right_doubts(parts, late, doubts, [each for each in plans if own_plan_cost(parts, each) < most])


def right_nofixed(parts, late, doubts):
    return right_doubts(parts, late, doubts, own_plans(parts))


def own_choice(parts, state, driver):
    _, roads, prices, (room, _) = parts
    place, ice, _, late = state
    leading = [index for index, road in enumerate(roads) if road[0] == place]
    if not leading:
        return None
    melts = [roads[index][2] * roads[index][3] for index in leading]
    index = leading[melts.index(min(melts))]
    _, target, hours, melt = roads[index]
    safe = sum(melt for _ in range(hours + late))
    dearer = (prices[target] or MOST_MONEY) > (prices[place] or 0)
    wanted = {"bare": min(melts), "safe": safe, "fill": room, "thrifty": room if dearer else safe}[driver]
    pieces = 0
    while prices[place] is not None and ice + pieces < min(wanted, room):
        pieces += 1
    return pieces, index


def own_run(parts, state, driver, delays):
    """The cost and the end behind delays, None if they are no delays of the driver."""
    cost = 0
    for more in delays:
        move = None if state is None else own_choice(parts, state, driver)
        if move is None or more not in range(state[3] + 1):
            return None
        cost += own_cost(parts, state, move)
        state = own_result(parts, state, move, more)
    return cost, state


def own_runs(parts, state, driver):
    """All delays at whose end no road is taken any more, with the cost and the end, by trying them all out."""
    found = []
    for size in range(parts[0]):
        for delays in product(range(state[3] + 1), repeat=size):
            run = own_run(parts, state, driver, delays)
            if run is not None and (run[1] is None or own_choice(parts, run[1], driver) is None):
                found.append((delays, *run))
    return found


def own_arrives(parts, end):
    return end is not None and end[0] == parts[0] - 1


def own_driver_cost(parts, state, driver):
    runs = own_runs(parts, state, driver)
    if not all(own_arrives(parts, end) for _, _, end in runs):
        return None
    return max(cost for _, cost, _ in runs)


def right_driver_heights(parts, driver, heights):
    for state, height in heights.items():
        if height < 0:
            return False
        if own_arrives(parts, state):
            continue
        move = own_choice(parts, state, driver)
        if move is None:
            return False
        for more in range(state[3] + 1):
            end = own_result(parts, state, move, more)
            if end is None or end not in heights or heights[end] + own_cost(parts, state, move) > height:
                return False
    return True


def right_arrives(parts, state, driver, cost, delays, heights):
    if own_driver_cost(parts, state, driver) != cost or state not in heights or heights[state] > cost:
        return False
    if (delays, cost) not in [(told, paid) for told, paid, _ in own_runs(parts, state, driver)]:
        return False
    return right_driver_heights(parts, driver, heights)


def right_fails(parts, state, driver, delays):
    runs = own_runs(parts, state, driver)
    return delays in [told for told, _, end in runs if not own_arrives(parts, end)]
