"""What is enough for somebody who knows beforehand how late each road is, and what it costs not to know."""

from coolway.kinds import is_shared
from coolway.plans import after_plan, check_fixing, is_plan, plan_cost
from coolway.rules import first_state, is_done, move_cost, move_results, possible_moves
from coolway.worths import late_price


class Known:
    """The least money that is enough with any news, with a plan for all news, and news that need so much."""

    def __init__(self, cost, plans, news):
        self.cost = cost
        self.plans = {told: plans[told] for told in plans}
        self.news = news

    def __eq__(self, other):
        return (
            isinstance(other, Known)
            and self.cost == other.cost
            and self.plans == other.plans
            and self.news == other.news
        )

    def __iter__(self):
        return iter(self.plans.items())

    def shows(self, chart, late):
        """Return whether cost, plans and news are right for a lateness."""
        check_fixing(chart, late)
        if not is_news(chart, late, self.news) or is_enough_with(chart, self.news, self.cost - 1):
            return False
        if len(self.plans) != len(all_news(len(chart), late)):
            return False
        return all([
            is_news(chart, late, told) and is_plan_for(chart, late, told, self.plans[told], self.cost)
            for told in self.plans
        ])


class Hopeless:
    """News for which no plan is enough."""

    def __init__(self, news):
        self.news = news

    def __eq__(self, other):
        return isinstance(other, Hopeless) and self.news == other.news

    def shows(self, chart, late):
        """Return whether the news are right for a lateness."""
        check_fixing(chart, late)
        return is_news(chart, late, self.news) and cheapest_plan(chart, self.news) is None


def known(chart, late):
    """Return a Known for a lateness, or a Hopeless if for some news no plan is enough."""
    check_fixing(chart, late)
    cost, plans, worst = -1, {}, None
    for news in all_news(len(chart), late):
        found = cheapest_plan(chart, news)
        if found is None:
            return Hopeless(news)
        plans[news] = found[1]
        if found[0] > cost:
            cost, worst = found[0], news
    return Known(cost, plans, worst)


def known_cost(chart, late):
    """Return the cost of the Known for a lateness, None for a Hopeless."""
    found = known(chart, late)
    return found.cost if isinstance(found, Known) else None


def not_knowing(chart, late):
    """Return what it costs not to know, None if it has no price."""
    cost = known_cost(chart, late)
    price = late_price(chart, late)
    return None if cost is None or price is None else price - cost


def all_news(size, late):
    """Return the list of all news for so many roads, in order."""
    if size == 0:
        return [()]
    return [(more, *rest) for more in range(late + 1) for rest in all_news(size - 1, late - more)]


def is_news(chart, late, news):
    """Return whether a value is news for a map and a lateness."""
    return is_shared(news, len(chart), late)


def is_plan_for(chart, late, news, plan, most):
    """Return whether a value is a plan of a map that costs at most so much and is enough with these news."""
    if not is_plan(chart, plan) or plan_cost(chart, plan) > most:
        return False
    return after_plan(chart, plan, late, [news[road] for _, road in plan]) is not None


def is_enough_with(chart, news, money):
    """Return whether so much money is enough for some plan with these news."""
    found = cheapest_plan(chart, news)
    return found is not None and found[0] <= money


def cheapest_plan(chart, news):
    """Return the cost of a cheapest plan with these news, and the plan, None if no plan is enough."""
    return cheapest_from(chart, news, first_state(sum(news)), {})


def cheapest_from(chart, news, state, found):
    """Return the cost and the pairs of what is left of a cheapest plan in a state, None if nothing is enough."""
    if is_done(chart, state):
        return 0, ()
    if state not in found:
        # A piece for which there is no room only costs more, so possible moves are all that a cheapest plan needs.
        ways = [way_with(chart, news, state, move, found) for move in possible_moves(chart, state)]
        found[state] = min([way for way in ways if way is not None], default=None)
    return found[state]


def way_with(chart, news, state, move, found):
    """Return the cost and the pairs of a move and of the cheapest that can follow it, None if nothing is enough."""
    end = move_results(chart, state, move)[news[move[1]]]
    rest = None if end is None else cheapest_from(chart, news, end, found)
    return None if rest is None else (move_cost(chart, state, move) + rest[0], (move,) + rest[1])
