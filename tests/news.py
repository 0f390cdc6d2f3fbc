"""What the tests work out by themselves about news and regrets, without the program."""

from ways import own_choice, own_delays, own_plan_cost, own_plan_end, own_plans, start

from search import own_cost, own_result


def own_news(parts, late):
    """All news, found among all tuples with so many numbers."""
    return own_delays(len(parts[1]), late)


class Reader:
    """Tries out plan after plan for news; whoever reads the news is told of all roads."""

    def __init__(self, parts):
        self.parts = parts
        self.plans = [(own_plan_cost(parts, plan), plan) for plan in own_plans(parts)]
        self.ends = {}

    def arrives(self, plan, news):
        delay = tuple(news[index] for _, index in plan)
        if (plan, delay) not in self.ends:
            self.ends[plan, delay] = own_plan_end(self.parts, plan, sum(delay), delay) is not None
        return self.ends[plan, delay]

    def least(self, news):
        for cost, plan in self.plans:
            if self.arrives(plan, news):
                return cost
        return None

    def known_cost(self, late):
        costs = [self.least(news) for news in own_news(self.parts, late)]
        return None if None in costs else max(costs)

    def right_known(self, late, cost, plans, news):
        every = own_news(self.parts, late)
        if news not in every or set(plans) != set(every):
            return False
        least = self.least(news)
        if least is not None and least < cost:
            return False
        costs = {plan: own for own, plan in self.plans}
        return all(plan in costs and costs[plan] <= cost and self.arrives(plan, told) for told, plan in plans.items())

    def right_hopeless(self, late, news):
        return news in own_news(self.parts, late) and self.least(news) is None

    def regret(self, driver, late, news):
        paid, least = own_paid(self.parts, driver, late, news), self.least(news)
        return None if paid is None or least is None else paid - least

    def greatest_regret(self, driver, late):
        regrets = [self.regret(driver, late, news) for news in own_news(self.parts, late)]
        return None if None in regrets else max(regrets)

    def right_regret(self, driver, late, number, news, plan):
        if news not in own_news(self.parts, late) or self.greatest_regret(driver, late) != number:
            return False
        if self.regret(driver, late, news) != number:
            return False
        return (self.least(news), plan) in self.plans and self.arrives(plan, news)

    def right_noregret(self, driver, late, news):
        return news in own_news(self.parts, late) and self.regret(driver, late, news) is None


def own_paid(parts, driver, late, news):
    """What a driver pays with news, None if it does not arrive."""
    state, paid = start(late), 0
    while state is not None and state[0] < parts[0] - 1:
        move = own_choice(parts, state, driver)
        if move is None:
            return None
        paid += own_cost(parts, state, move)
        state = own_result(parts, state, move, news[move[1]])
    return None if state is None else paid
