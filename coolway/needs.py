"""How much ice is needed where, so that a purse is enough."""

from coolway.errors import BadPurse
from coolway.evidence import heights_hold, is_reached, is_within, levels_hold, states_spoil
from coolway.kinds import is_between
from coolway.maps import MOST_LATE, check_map, check_state
from coolway.sure import add_least_cost, heights_from, levels_up_to, states_without

MOST_PURSE = 99


class Needs:
    """The need of each triple, with heights that show it is enough, and levels and states that show no less is."""

    def __init__(self, needs, heights, levels, states):
        self.needs = {triple: needs[triple] for triple in needs}
        self.heights = {state: heights[state] for state in heights}
        self.levels = {state: levels[state] for state in levels}
        self.states = list(states)

    def __eq__(self, other):
        return (
            isinstance(other, Needs)
            and self.needs == other.needs
            and self.heights == other.heights
            and self.levels == other.levels
            and self.states == other.states
        )

    def shows(self, chart, purse):
        """Return whether needs, heights, levels and states are right for a purse."""
        check_map(chart)
        check_purse(purse)
        triples = all_triples(chart)
        if len(self.needs) != len(triples) or not all([is_need(chart, self, triple, purse) for triple in triples]):
            return False
        if not heights_hold(chart, self.heights) or not levels_hold(chart, self.levels):
            return False
        return states_spoil(chart, self.states)


def needs(chart, purse):
    """Return a Needs for a purse."""
    check_map(chart)
    check_purse(purse)
    costs, found = {}, {}
    for triple in all_triples(chart):
        add_costs(chart, triple, costs)
        found[triple] = least_need(chart, triple, purse, costs)
    return Needs(found, heights_from(costs), levels_up_to(costs, purse + 1), states_without(costs))


def need_at(chart, purse, place, warm, late):
    """Return the need of a place, warm hours and late hours for a purse, None if there is none."""
    check_map(chart)
    check_purse(purse)
    triple = (place, warm, late)
    check_state(chart, with_ice(triple, 0))
    costs = {}
    add_costs(chart, triple, costs)
    return least_need(chart, triple, purse, costs)


def check_purse(purse):
    """Raise BadPurse if a value is not a purse."""
    if not is_between(purse, 0, MOST_PURSE):
        raise BadPurse("not an integer from 0 to 99")


def with_ice(triple, ice):
    """Return the state of a place, warm hours and late hours with so much ice."""
    place, warm, late = triple
    return (place, ice, warm, late)


def all_triples(chart):
    """Return the list of all triples of a place, warm hours and late hours, in order."""
    return [
        (place, warm, late)
        for place in range(chart.places)
        for warm in range(chart.box[1] + 1)
        for late in range(MOST_LATE + 1)
    ]


def add_costs(chart, triple, costs):
    """Add the least costs of the states of a triple, with each number of pieces, and of all that can follow."""
    for ice in range(chart.box[0] + 1):
        add_least_cost(chart, with_ice(triple, ice), costs)


def least_need(chart, triple, purse, costs):
    """Return the least number of pieces with which a triple costs at most the purse, None if there is none."""
    for ice in range(chart.box[0] + 1):
        cost = costs[with_ice(triple, ice)]
        if cost is not None and cost <= purse:
            return ice
    return None


def is_need(chart, found, triple, purse):
    """Return whether a Needs has a need for a triple, and shows that it is enough, and one piece less is not."""
    if triple not in found.needs:
        return False
    need = found.needs[triple]
    if need is None:
        return is_too_little(found, with_ice(triple, chart.box[0]), purse)
    if not is_within(found.heights, with_ice(triple, need), purse):
        return False
    return need == 0 or is_too_little(found, with_ice(triple, need - 1), purse)


def is_too_little(found, state, purse):
    """Return whether the states or the levels of a Needs show that a purse is not enough in a state."""
    return state in found.states or is_reached(found.levels, state, purse + 1)
