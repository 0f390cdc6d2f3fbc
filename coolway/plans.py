"""Plans that are fixed beforehand, the delays that spoil them, and the cheapest one that none spoils."""

from coolway.errors import BadPlan, TooLarge
from coolway.kinds import is_between, is_group, is_shared
from coolway.maps import check_lateness, check_map
from coolway.rules import first_state, move_results, pairs_from, pieces_cost

MOST_PLANS = 400


class Fixed:
    """A cheapest plan that no delay spoils, with a delay for each cheaper plan that spoils it."""

    def __init__(self, plan, doubts):
        self.plan = plan
        self.doubts = {cheaper: doubts[cheaper] for cheaper in doubts}

    def __eq__(self, other):
        return isinstance(other, Fixed) and self.plan == other.plan and self.doubts == other.doubts

    def __iter__(self):
        return iter(self.doubts.items())

    def shows(self, chart, late):
        """Return whether plan and doubts are right for a lateness."""
        check_fixing(chart, late)
        if not is_plan(chart, self.plan) or first_spoiling(chart, self.plan, first_state(late)) is not None:
            return False
        cheaper = cheaper_plans(chart, ordered_plans(chart), plan_cost(chart, self.plan))
        return doubts_hold(chart, late, self.doubts, cheaper)


class NoFixed:
    """For each plan a delay that spoils it."""

    def __init__(self, doubts):
        self.doubts = {plan: doubts[plan] for plan in doubts}

    def __eq__(self, other):
        return isinstance(other, NoFixed) and self.doubts == other.doubts

    def __iter__(self):
        return iter(self.doubts.items())

    def shows(self, chart, late):
        """Return whether the doubts are right for a lateness."""
        check_fixing(chart, late)
        return doubts_hold(chart, late, self.doubts, ordered_plans(chart))


def all_plans(chart):
    """Return the list of all plans, by their costs, then as tuples."""
    check_map(chart)
    check_number(chart)
    return ordered_plans(chart)


def spoiling(chart, plan, late):
    """Return the first delay that spoils the goods by a plan, None if there is none."""
    check_map(chart)
    check_plan(chart, plan)
    check_lateness(late)
    return first_spoiling(chart, plan, first_state(late))


def fixed(chart, late):
    """Return a Fixed for a lateness, or a NoFixed if each plan can be spoiled."""
    check_fixing(chart, late)
    doubts = {}
    for plan in ordered_plans(chart):
        delay = first_spoiling(chart, plan, first_state(late))
        if delay is None:
            # Plans before this one that cost as much are no doubts.
            cheaper = cheaper_plans(chart, list(doubts), plan_cost(chart, plan))
            return Fixed(plan, {each: doubts[each] for each in cheaper})
        doubts[plan] = delay
    return NoFixed(doubts)


def fixed_cost(chart, late):
    """Return the cost of the plan of a Fixed for a lateness, None if each plan can be spoiled."""
    found = fixed(chart, late)
    return plan_cost(chart, found.plan) if isinstance(found, Fixed) else None


def check_plan(chart, plan):
    """Raise BadPlan if a value is not a plan of a map."""
    if not is_plan(chart, plan):
        raise BadPlan("not a plan of the map")


def check_number(chart):
    """Raise TooLarge if a map has too many plans."""
    if count_plans(chart) > MOST_PLANS:
        raise TooLarge("the map has more than 400 plans")


def check_fixing(chart, late):
    """Raise the error for the first of map, lateness and number of plans that is wrong."""
    check_map(chart)
    check_lateness(late)
    check_number(chart)


def is_plan(chart, plan):
    """Return whether a value is a plan of a map."""
    if not isinstance(plan, tuple):
        return False
    place = 0
    for pair in plan:
        if not is_pair_from(chart, place, pair):
            return False
        place = chart.roads[pair[1]][1]
    return place == chart.places - 1


def is_pair_from(chart, place, pair):
    """Return whether a value is a pair of a plan at a place."""
    if not is_group(pair, 2):
        return False
    pieces, road = pair
    most = 0 if chart.prices[place] is None else chart.box[0]
    if not is_between(pieces, 0, most) or not is_between(road, 0, len(chart) - 1):
        return False
    return chart.roads[road][0] == place


def plan_pairs(chart, place):
    """Return the list of all pairs that a plan can have at a place, in order."""
    # Beforehand, nobody knows how much ice will be left, so as much can be bought as for an empty box.
    return pairs_from(chart, place, chart.box[0])


def count_plans(chart):
    """Return how many plans a map has."""
    goal = chart.places - 1
    counts = [0] * goal + [1]
    for place in reversed(range(goal)):
        counts[place] = sum([counts[chart.roads[road][1]] for _, road in plan_pairs(chart, place)])
    return counts[0]


def ordered_plans(chart):
    """Return the list of all plans of a map, by their costs, then as tuples."""
    priced = sorted([(plan_cost(chart, plan), plan) for plan in plans_from(chart, 0)])
    return [plan for _, plan in priced]


def plans_from(chart, place):
    """Return the list of all that plans can do from a place to the goal."""
    if place == chart.places - 1:
        return [()]
    found = []
    for pair in plan_pairs(chart, place):
        found.extend([(pair, *rest) for rest in plans_from(chart, chart.roads[pair[1]][1])])
    return found


def plan_cost(chart, plan):
    """Return what all pieces of a plan cost together."""
    return sum([pieces_cost(chart, chart.roads[road][0], pieces) for pieces, road in plan])


def cheaper_plans(chart, plans, cost):
    """Return the list of those of the plans that cost less than so much."""
    return [plan for plan in plans if plan_cost(chart, plan) < cost]


def pair_results(chart, state, pair):
    """Return the list of the results of a pair of a plan, by the hours that its road is late."""
    pieces, road = pair
    # A piece for which there is no room is paid all the same, but left behind.
    return move_results(chart, state, (min(pieces, chart.box[0] - state[1]), road))


def first_spoiling(chart, plan, state):
    """Return the first delay that spoils the goods by what is left of a plan in a state, None if there is none."""
    if not plan:
        return None
    for more, end in enumerate(pair_results(chart, state, plan[0])):
        if end is None:
            return (more,) + (0,) * (len(plan) - 1)
        rest = first_spoiling(chart, plan[1:], end)
        if rest is not None:
            return (more, *rest)
    return None


def after_plan(chart, plan, late, delay):
    """Return the state at the end of a plan with a delay, None if the goods are spoiled."""
    state = first_state(late)
    for pair, more in zip(plan, delay):
        state = pair_results(chart, state, pair)[more]
        if state is None:
            return None
    return state


def doubts_hold(chart, late, doubts, plans):
    """Return whether doubts lead from exactly these plans to delays that spoil them."""
    if len(doubts) != len(plans) or not all([is_plan(chart, plan) for plan in doubts]):
        return False
    return all([plan in doubts and is_doubt(chart, plan, late, doubts[plan]) for plan in plans])


def is_doubt(chart, plan, late, delay):
    """Return whether a value is a delay that spoils the goods by a plan."""
    return is_shared(delay, len(plan), late) and after_plan(chart, plan, late, delay) is None
