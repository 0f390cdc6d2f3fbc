import random
import time
import unittest
from itertools import product

from coolway.errors import BadLateness, BadMap, TooLarge
from coolway.knowing import Hopeless, Known, known, known_cost, not_knowing
from coolway.maps import Map
from coolway.plans import all_plans
from coolway.sure import sure_cost
from coolway.worths import late_prices
from news import Reader, own_news
from search import CHAIN, LONG
from test_moves import NOT_MAPS
from test_plans import ABOVE, BIG, EDGE, NOT_PLANS, NOWHERE, THIN, small_parts
from test_worths import NOT_LATENESSES
from ways import own_plans, own_price, start

LINE = Map(3, ((0, 1, 2, 1), (1, 2, 2, 1)), (2, 5, None), (4, 0))
TWIN = Map(2, ((0, 1, 1, 2), (0, 1, 2, 1)), (3, None), (4, 0))
STEEP = Map(2, ((0, 1, 4, 2),), (1, None), (4, 0))
# With two pieces, one of the roads may be late, but not both of them; only who knows can choose.
EITHER = Map(2, ((0, 1, 1, 2), (0, 1, 2, 1)), (1, None), (2, 0))
PLANS = {(0, 0): ((2, 0),), (0, 1): ((2, 0),), (1, 0): ((2, 1),)}
# As many roads as there can be, and so as many news.
SEVEN = (4, ((0, 1, 1, 1), (0, 1, 1, 2), (0, 1, 2, 0), (0, 2, 1, 1), (1, 2, 1, 0), (1, 2, 2, 1), (2, 3, 1, 0)))
NOT_NEWS = ((), (0,), (0, 0, 0), (2, 0), (0, 2), (1, 1), (-1, 0), (0, -1), (2, -1), (-1, 1), (10**20, 0), (1, -(10**20)))


class Search(unittest.TestCase):
    def check(self, parts, late):
        chart, reader = Map(*parts), Reader(parts)
        cost, price, found = reader.known_cost(late), own_price(parts, late), known(chart, late)
        self.assertEqual(known_cost(chart, late), cost, (parts, late))
        self.assertTrue(found.shows(chart, late), (parts, late))
        if cost is None:
            self.assertIs(type(found), Hopeless)
            self.assertTrue(reader.right_hopeless(late, found.news), (parts, late))
        else:
            self.assertIs(type(found), Known)
            self.assertEqual(found.cost, cost)
            self.assertTrue(reader.right_known(late, cost, found.plans, found.news), (parts, late))
            self.assertEqual(list(found.plans), own_news(parts, late))
        worth = None if cost is None or price is None else price - cost
        self.assertEqual(not_knowing(chart, late), worth, (parts, late))
        return cost, price

    def test_many_small_maps(self):
        found = [self.check(parts, late) for parts in small_parts(71, 120, most_roads=4) for late in (0, 1, 2)]
        self.assertGreater(sum(cost is None for cost, _ in found), 20)
        self.assertGreater(sum(cost is not None and price is None for cost, price in found), 3)
        self.assertGreater(sum(None not in pair and pair[0] < pair[1] for pair in found), 20)
        # Who goes by what is surely enough arrives with any news, so there is always a plan then.
        self.assertFalse([pair for pair in found if pair[0] is None and pair[1] is not None])

    def test_each_lateness(self):
        for parts in small_parts(72, 12, most_roads=3):
            for late in range(5):
                self.check(parts, late)

    def test_maps_with_more_roads(self):
        for parts in small_parts(73, 8, most_places=4, most_room=4):
            for late in (0, 2):
                self.check(parts, late)

    def test_maps_with_little_room(self):
        for parts in small_parts(74, 30, most_room=2, most_roads=4):
            for late in (1, 3):
                self.check(parts, late)

    def test_at_the_limit(self):
        for late in (0, 1, 3):
            self.check(EDGE, late)
            self.check(THIN, late)

    def test_not_late_at_all(self):
        # Then there is nothing to know.
        for parts in small_parts(75, 40):
            chart = Map(*parts)
            cost = known_cost(chart, 0)
            self.assertEqual(cost, sure_cost(chart, start(0)), parts)
            self.assertEqual(not_knowing(chart, 0), None if cost is None else 0)
            if cost is not None:
                self.assertEqual(list(known(chart, 0).plans), [(0,) * len(chart)])


class Answers(unittest.TestCase):
    def test_the_line(self):
        self.assertEqual([known_cost(LINE, late) for late in range(5)], [8, 13, 18, None, None])
        self.assertEqual([not_knowing(LINE, late) for late in range(5)], [0, 0, 0, None, None])

    def test_what_it_costs_not_to_know(self):
        self.assertEqual([known_cost(TWIN, late) for late in range(5)], [6, 6, 9, 12, 12])
        self.assertEqual(late_prices(TWIN), [6, 9, 12, None, None])
        self.assertEqual([not_knowing(TWIN, late) for late in range(5)], [0, 3, 3, None, None])

    def test_only_who_knows_can_arrive(self):
        self.assertEqual([known_cost(EITHER, late) for late in range(3)], [2, 2, None])
        self.assertEqual([sure_cost(EITHER, start(late)) for late in range(3)], [2, None, None])
        self.assertEqual([not_knowing(EITHER, late) for late in range(3)], [0, None, None])
        found = known(EITHER, 1)
        self.assertEqual(found.plans, {(0, 0): found.plans[(0, 0)], (0, 1): ((2, 0),), (1, 0): ((2, 1),)})
        self.assertEqual(known(EITHER, 2), Hopeless((1, 1)))

    def test_all_news_in_order(self):
        found = known(TWIN, 2)
        self.assertEqual(list(found.plans), [(0, 0), (0, 1), (0, 2), (1, 0), (1, 1), (2, 0)])
        for late, number in enumerate((1, 8, 36, 120, 330)):
            parts = (*SEVEN, (1, 2, 3, None), (1, 2))
            found = known(Map(*parts), late)
            self.assertEqual(len(found.plans), number)
            self.assertEqual(list(found.plans), sorted(found.plans))
            self.assertEqual(list(found.plans), own_news(parts, late))

    def test_roads_that_no_plan_uses(self):
        # The second road leads nowhere, the third one comes from nowhere.
        roads = ((0, 1, 2, 1), (0, 2, 1, 1), (1, 4, 1, 1), (3, 4, 1, 1))
        chart = Map(5, roads, (2, None, 1, 1, None), (6, 0))
        found = known(chart, 1)
        self.assertEqual(list(found.plans), [(0, 0, 0, 0), (0, 0, 0, 1), (0, 0, 1, 0), (0, 1, 0, 0), (1, 0, 0, 0)])
        self.assertEqual(found.cost, 8)
        self.assertEqual({tuple(road for _, road in plan) for plan in found.plans.values()}, {(0, 2)})
        self.assertIn(found.news, ((0, 0, 1, 0), (1, 0, 0, 0)))
        for news in own_news((5, roads), 1):
            right = news in ((0, 0, 1, 0), (1, 0, 0, 0))
            self.assertEqual(Known(8, found.plans, news).shows(chart, 1), right)

    def test_hopeless(self):
        for late in range(5):
            found = known(STEEP, late)
            self.assertIs(type(found), Hopeless)
            self.assertTrue(found.shows(STEEP, late))
            self.assertEqual((known_cost(STEEP, late), not_knowing(STEEP, late)), (None, None))
        self.assertTrue(known(LINE, 3).shows(LINE, 3))

    def test_no_plans_at_all(self):
        for late in range(5):
            found = known(NOWHERE, late)
            self.assertIs(type(found), Hopeless)
            self.assertTrue(found.shows(NOWHERE, late))
            self.assertEqual((known_cost(NOWHERE, late), not_knowing(NOWHERE, late)), (None, None))

    def test_nothing_to_pay(self):
        chart = Map(2, ((0, 1, 4, 0),), (None, None), (1, 0))
        for late in range(5):
            found = known(chart, late)
            self.assertEqual((found.cost, found.plans), (0, {(more,): ((0, 0),) for more in range(late + 1)}))
            self.assertEqual(not_knowing(chart, late), 0)
            # No plan costs less than nothing, so any news will do.
            for more in range(late + 1):
                self.assertTrue(Known(0, found.plans, (more,)).shows(chart, late))

    def test_time_at_the_limit(self):
        begin = time.process_time()
        for parts in (EDGE, THIN, LONG[:3] + ((1, 0),), (*SEVEN, (1, 2, None, None), (2, 1))):
            known(Map(*parts), 4).shows(Map(*parts), 4)
            not_knowing(Map(*parts), 4)
        self.assertLess(time.process_time() - begin, 20)


class KnownShows(unittest.TestCase):
    def shows(self, cost=6, plans=None, news=(0, 0), chart=TWIN, late=1):
        return Known(cost, PLANS if plans is None else plans, news).shows(chart, late)

    def test_right(self):
        for news in PLANS:
            self.assertTrue(self.shows(news=news))
        self.assertTrue(self.shows(plans=dict(reversed(list(PLANS.items())))))
        self.assertTrue(self.shows(plans={**PLANS, (0, 0): ((2, 1),)}))

    def test_each_plan_for_each_news(self):
        reader, answers = Reader((2, TWIN.roads, TWIN.prices, TWIN.box)), []
        plans = all_plans(TWIN)
        for told, plan, cost in product(PLANS, plans, (3, 6, 9)):
            right = reader.right_known(1, cost, {**PLANS, told: plan}, (0, 0))
            self.assertEqual(self.shows(cost, {**PLANS, told: plan}), right, (told, plan, cost))
            answers.append(right)
        self.assertEqual(answers.count(True), 4)

    def test_another_cost(self):
        for cost in (-1, 0, 3, 5, 7, 9, 12, 10**20):
            for news in PLANS:
                self.assertFalse(self.shows(cost, news=news), cost)

    def test_plans_that_cost_less_or_more(self):
        # The news that need most are not those of the first plans.
        chart = Map(2, ((0, 1, 1, 1),), (3, None), (6, 0))
        plans = {(0,): ((1, 0),), (1,): ((2, 0),)}
        self.assertTrue(Known(6, plans, (1,)).shows(chart, 1))
        self.assertTrue(Known(6, {**plans, (0,): ((2, 0),)}, (1,)).shows(chart, 1))
        self.assertFalse(Known(6, plans, (0,)).shows(chart, 1))
        for plan in (((3, 0),), ((6, 0),), ((0, 0),)):
            self.assertFalse(Known(6, {**plans, (0,): plan}, (1,)).shows(chart, 1))
        for plan in (((0, 0),), ((1, 0),), ((3, 0),)):
            self.assertFalse(Known(6, {**plans, (1,): plan}, (1,)).shows(chart, 1))
        self.assertFalse(Known(9, {(0,): ((3, 0),), (1,): ((3, 0),)}, (1,)).shows(chart, 1))
        self.assertFalse(Known(3, {(0,): ((1, 0),), (1,): ((1, 0),)}, (1,)).shows(chart, 1))

    def test_a_plan_missing(self):
        for told in PLANS:
            self.assertFalse(self.shows(plans={each: PLANS[each] for each in PLANS if each != told}))
        self.assertFalse(self.shows(plans={}))

    def test_a_plan_too_many(self):
        for told in NOT_NEWS:
            self.assertFalse(self.shows(plans={**PLANS, told: ((2, 0),)}), told)

    def test_a_plan_for_other_news(self):
        for told, other in product(PLANS, NOT_NEWS):
            plans = {other if each == told else each: PLANS[each] for each in PLANS}
            self.assertFalse(self.shows(plans=plans), (told, other))

    def test_plans_that_are_none(self):
        for plan in ((), (2, 0), ((2, 2),), ((5, 0),), ((-1, 0),), ((2, -1),), ((2, 0), (0, 1)), ((2,),), ((2, 0, 0),)):
            self.assertFalse(self.shows(plans={**PLANS, (0, 0): plan}), plan)
        for plan in NOT_PLANS:
            for news in ((0, 0), (0, 1), (1, 0)):
                right = known(LINE, 1)
                self.assertFalse(Known(13, {**right.plans, news: plan}, right.news).shows(LINE, 1), plan)

    def test_other_news(self):
        for news in NOT_NEWS:
            self.assertFalse(self.shows(news=news), news)
        right = known(LINE, 1)
        for news in ((0, 0), (1, 0), (0, 1), (1, 1), (2, 0), (0, 2)):
            self.assertEqual(Known(13, right.plans, news).shows(LINE, 1), sum(news) == 1, news)

    def test_true_and_false_are_no_integers(self):
        for news in ((False, 0), (0, False), (True, 0)):
            self.assertFalse(self.shows(news=news))
            self.assertFalse(self.shows(plans={(news if told == news else told): PLANS[told] for told in PLANS}))
        self.assertFalse(self.shows(plans={**PLANS, (0, 0): ((2, False),)}))
        self.assertFalse(self.shows(plans={**PLANS, (1, 0): ((2, True),)}))

    def test_for_another_lateness_or_map(self):
        for late in (0, 2, 3, 4):
            self.assertFalse(self.shows(late=late))
        self.assertFalse(self.shows(chart=LINE))
        self.assertFalse(self.shows(chart=Map(2, TWIN.roads, (2, None), (4, 0))))
        self.assertFalse(self.shows(chart=Map(2, TWIN.roads, (4, None), (4, 0))))
        self.assertFalse(self.shows(chart=Map(2, TWIN.roads, (3, None), (4, 1))))
        self.assertTrue(self.shows(chart=Map(2, TWIN.roads, (3, 1), (2, 0))))

    def test_where_it_is_hopeless(self):
        self.assertFalse(Known(4, {(0,): ((4, 0),)}, (0,)).shows(STEEP, 0))
        self.assertFalse(Known(2, {**PLANS, (0, 2): ((2, 0),), (2, 0): ((2, 1),), (1, 1): ((2, 0),)}, (1, 1)).shows(EITHER, 2))
        self.assertFalse(Known(0, {(0,): ()}, (0,)).shows(NOWHERE, 0))

    def test_attributes_that_change(self):
        found = known(TWIN, 1)
        found.cost = 5
        self.assertFalse(found.shows(TWIN, 1))
        found.cost = 6
        self.assertTrue(found.shows(TWIN, 1))
        found.news = (1, 1)
        self.assertFalse(found.shows(TWIN, 1))
        found.news = (1, 0)
        self.assertTrue(found.shows(TWIN, 1))
        kept = found.plans.pop((0, 1))
        self.assertFalse(found.shows(TWIN, 1))
        found.plans[(0, 1)] = kept
        self.assertTrue(found.shows(TWIN, 1))
        found.plans = {}
        self.assertFalse(found.shows(TWIN, 1))


class HopelessShows(unittest.TestCase):
    def test_each_news(self):
        for news in product(range(-1, 4), repeat=2):
            right = sum(news) <= 2 and min(news) >= 0
            # Only if both roads are late, two pieces are too few.
            self.assertEqual(Hopeless(news).shows(EITHER, 2), right and min(news) == 1, news)
            self.assertFalse(Hopeless(news).shows(EITHER, 1), news)
            self.assertFalse(Hopeless(news).shows(TWIN, 2), news)

    def test_other_news(self):
        for news in ((), (0, 0), (-1,), (1,), (10**20,)):
            self.assertFalse(Hopeless(news).shows(STEEP, 0), news)
            self.assertFalse(Hopeless(news).shows(NOWHERE, 0), news)
        self.assertTrue(Hopeless((0,)).shows(STEEP, 0))
        self.assertTrue(Hopeless((1,)).shows(STEEP, 1))
        self.assertTrue(Hopeless((0,)).shows(STEEP, 4))
        self.assertFalse(Hopeless((False,)).shows(STEEP, 0))
        self.assertTrue(Hopeless((0,)).shows(NOWHERE, 0))

    def test_attributes_that_change(self):
        found = known(EITHER, 2)
        for news, right in (((0, 1), False), ((1, 1), True), ((0, 0), False), ((1,), False)):
            found.news = news
            self.assertEqual(found.shows(EITHER, 2), right)


class Changed(unittest.TestCase):
    """What is wrong in one thing, against what the tests themselves say of it."""

    def changed_news(self, chance, news, late):
        at = chance.randrange(len(news))
        other = list(news)
        other[at] = chance.randint(-1, late + 1)
        if not chance.randrange(4):
            other = other[: chance.randrange(len(other))]
        return tuple(other)

    def changed(self, chance, found, plans, late):
        cost, told, news = found.cost, dict(found.plans), found.news
        kind = chance.randrange(5)
        at = chance.choice(list(told))
        if kind == 0:
            cost += chance.choice((-1, 1, 2))
        elif kind == 1:
            news = self.changed_news(chance, news, late)
        elif kind == 2:
            del told[at]
        elif kind == 3:
            told[at] = chance.choice(plans)
        else:
            told[self.changed_news(chance, at, late)] = chance.choice((told[at], chance.choice(plans)))
        return Known(cost, told, news)

    def test_all(self):
        chance, answers = random.Random(76), {Known: [], Hopeless: []}
        for parts in small_parts(77, 50, most_roads=4):
            chart, reader, plans = Map(*parts), Reader(parts), own_plans(parts)
            for late in (0, 1, 2):
                found = known(chart, late)
                for _ in range(8):
                    if isinstance(found, Known):
                        other = self.changed(chance, found, plans, late)
                        right = reader.right_known(late, other.cost, other.plans, other.news)
                    else:
                        other = Hopeless(self.changed_news(chance, found.news, late))
                        right = reader.right_hopeless(late, other.news)
                    self.assertEqual(other.shows(chart, late), right, (parts, late, vars(other)))
                    answers[type(found)].append(right)
        for told in answers.values():
            self.assertGreater(told.count(True), 20)
            self.assertGreater(told.count(False), 50)


class Conventions(unittest.TestCase):
    def test_the_dict_is_copied(self):
        plans = dict(PLANS)
        found = Known(6, plans, (0, 0))
        plans.clear()
        self.assertEqual(found.plans, PLANS)
        found.plans[(1, 1)] = ((0, 0),)
        self.assertEqual(plans, {})

    def test_iteration(self):
        for plans in (PLANS, dict(reversed(list(PLANS.items()))), {}):
            found = Known(6, plans, (0, 0))
            for _ in range(2):
                self.assertEqual(list(found), list(plans.items()))
                self.assertEqual([pair for pair in found], list(plans.items()))
            self.assertTrue(all(type(pair) is tuple for pair in found))
            found.plans = {(0, 1): ((2, 0),)}
            self.assertEqual(list(found), [((0, 1), ((2, 0),))])
        self.assertEqual(list(known(TWIN, 2)), list(known(TWIN, 2).plans.items()))

    def test_equality(self):
        one = Known(6, PLANS, (0, 0))
        self.assertTrue(one == Known(6, dict(reversed(list(PLANS.items()))), (0, 0)))
        self.assertFalse(one != Known(6, PLANS, (0, 0)))
        for other in (
            Known(5, PLANS, (0, 0)),
            Known(6, {}, (0, 0)),
            Known(6, {**PLANS, (0, 0): ((2, 1),)}, (0, 0)),
            Known(6, PLANS, (0, 1)),
            Hopeless((0, 0)),
        ):
            self.assertFalse(one == other)
            self.assertTrue(one != other)
        self.assertTrue(Hopeless((0, 1)) == Hopeless((0, 1)))
        self.assertTrue(Hopeless((0, 1)) != Hopeless((1, 0)))
        self.assertFalse(Hopeless((0, 1)) == Hopeless((0,)))

    def test_answers_are_new(self):
        for chart in (TWIN, STEEP):
            first, expected = known(chart, 1), known(chart, 1)
            self.assertIsNot(first, expected)
            self.assertEqual(first, expected)
            first.news = None
            if isinstance(first, Known):
                first.plans.clear()
            self.assertEqual(known(chart, 1), expected)
            self.assertTrue(expected.shows(chart, 1))

    def test_showing_changes_nothing(self):
        for chart in (TWIN, STEEP):
            found, other = known(chart, 1), known(chart, 1)
            for late in range(5):
                found.shows(chart, late)
            with self.assertRaises(TooLarge):
                found.shows(BIG, 1)
            self.assertEqual(found, other)
        self.assertEqual(list(known(TWIN, 1)), list(known(TWIN, 1)))

    def test_keywords(self):
        self.assertEqual(Known(cost=6, plans=PLANS, news=(0, 0)), Known(6, PLANS, (0, 0)))
        self.assertEqual(Hopeless(news=(0, 0)), Hopeless((0, 0)))
        self.assertEqual(known(chart=TWIN, late=1), known(TWIN, 1))
        self.assertTrue(known(TWIN, 1).shows(chart=TWIN, late=1))


class Wrong(unittest.TestCase):
    CALLS = (known, known_cost, not_knowing, Known(6, PLANS, (0, 0)).shows, Hopeless((0,)).shows)

    def test_no_map(self):
        for call, chart, late in product(self.CALLS, NOT_MAPS, (0, 5, None)):
            with self.assertRaises(BadMap) as caught:
                call(chart, late)
            self.assertIsNone(caught.exception.part)

    def test_no_lateness(self):
        for call, late, chart in product(self.CALLS, NOT_LATENESSES, (LINE, BIG)):
            with self.assertRaises(BadLateness):
                call(chart, late)

    def test_too_large(self):
        for call, parts, late in product(self.CALLS, (*ABOVE, CHAIN), range(5)):
            with self.assertRaises(TooLarge):
                call(Map(*parts), late)

    def test_exactly_400(self):
        for late in range(5):
            found = known(Map(*EDGE), late)
            self.assertTrue(found.shows(Map(*EDGE), late))


if __name__ == "__main__":
    unittest.main()
