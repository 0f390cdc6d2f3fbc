"""What drivers pay with news, and how much less a plan for these news would have cost."""

from coolway.drivers import check_driver, driver_move
from coolway.errors import BadNews
from coolway.knowing import all_news, cheapest_plan, is_news, is_plan_for
from coolway.maps import check_lateness, check_map
from coolway.plans import check_number
from coolway.rules import first_state, is_done, move_cost, move_results


class Regret:
    """The greatest regret of a driver, with news with which it is so great, and a cheapest plan for them."""

    def __init__(self, number, news, plan):
        self.number = number
        self.news = news
        self.plan = plan

    def __eq__(self, other):
        return (
            isinstance(other, Regret)
            and self.number == other.number
            and self.news == other.news
            and self.plan == other.plan
        )

    def shows(self, chart, driver, late):
        """Return whether number, news and plan are right for a driver and a lateness."""
        check_regretting(chart, driver, late)
        if not is_news(chart, late, self.news):
            return False
        paid = driver_paid(chart, driver, late, self.news)
        if paid is None or not is_plan_for(chart, late, self.news, self.plan, paid - self.number):
            return False
        # If no regret is greater, no plan is cheaper for these news, and the number is no less than it should be.
        return all([is_regret_up_to(chart, driver, late, told, self.number) for told in all_news(len(chart), late)])


class NoRegret:
    """News with which a driver does not arrive, or no plan is enough."""

    def __init__(self, news):
        self.news = news

    def __eq__(self, other):
        return isinstance(other, NoRegret) and self.news == other.news

    def shows(self, chart, driver, late):
        """Return whether the news are right for a driver and a lateness."""
        check_regretting(chart, driver, late)
        return is_news(chart, late, self.news) and regret_with(chart, driver, late, self.news) is None


def paid_with(chart, driver, late, news):
    """Return what a driver pays with news, None if it does not arrive unspoiled."""
    check_driving(chart, driver, late)
    if not is_news(chart, late, news):
        raise BadNews("not news for the lateness")
    return driver_paid(chart, driver, late, news)


def regret(chart, driver, late):
    """Return a Regret for a driver and a lateness, or a NoRegret if with some news there is no regret."""
    check_regretting(chart, driver, late)
    number, worst, plan = -1, None, None
    for news in all_news(len(chart), late):
        found = regret_with(chart, driver, late, news)
        if found is None:
            return NoRegret(news)
        if found[0] > number:
            number, plan = found
            worst = news
    return Regret(number, worst, plan)


def greatest_regret(chart, driver, late):
    """Return the number of the Regret for a driver and a lateness, None for a NoRegret."""
    found = regret(chart, driver, late)
    return found.number if isinstance(found, Regret) else None


def check_driving(chart, driver, late):
    """Raise the error for the first of map, driver and lateness that is wrong."""
    check_map(chart)
    check_driver(driver)
    check_lateness(late)


def check_regretting(chart, driver, late):
    """Raise the error for the first of map, driver, lateness and number of plans that is wrong."""
    check_driving(chart, driver, late)
    check_number(chart)


def driver_paid(chart, driver, late, news):
    """Return what a driver pays with news, None if it does not arrive unspoiled."""
    state, paid = first_state(late), 0
    while not is_done(chart, state):
        move = driver_move(chart, state, driver)
        if move is None:
            return None
        paid += move_cost(chart, state, move)
        state = move_results(chart, state, move)[news[move[1]]]
        if state is None:
            return None
    return paid


def regret_with(chart, driver, late, news):
    """Return the regret of a driver with news, and a cheapest plan, None if it does not arrive or no plan is enough."""
    paid, cheapest = driver_paid(chart, driver, late, news), cheapest_plan(chart, news)
    return None if paid is None or cheapest is None else (paid - cheapest[0], cheapest[1])


def is_regret_up_to(chart, driver, late, news, most):
    """Return whether a driver has a regret with news, and it is at most so great."""
    found = regret_with(chart, driver, late, news)
    return found is not None and found[0] <= most
