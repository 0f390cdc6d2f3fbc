import random
import time
import unittest
from itertools import product

from coolway.drivers import DRIVERS, driver_cost
from coolway.errors import BadDriver, BadLateness, BadMap, BadNews, TooLarge
from coolway.maps import Map
from coolway.plans import all_plans
from coolway.regrets import NoRegret, Regret, greatest_regret, paid_with, regret
from news import Reader, own_news, own_paid
from search import BOUNDS, CHAIN, many_parts
from test_drivers import NOT_DRIVERS
from test_moves import NOT_MAPS
from test_plans import ABOVE, BIG, EDGE, NOT_PLANS, NOWHERE, THIN, small_parts
from test_worths import NOT_LATENESSES
from ways import own_driver_cost, own_plans, start

LINE = Map(3, ((0, 1, 2, 1), (1, 2, 2, 1)), (2, 5, None), (4, 0))
SHORT = Map(2, ((0, 1, 2, 1),), (3, None), (3, 0))
# The driver takes the first road; the second one melts more, except where the first one is late.
TWIN = Map(2, ((0, 1, 1, 1), (0, 1, 2, 1)), (3, None), (4, 0))
# No road leads on from the place 1.
STUCK = Map(3, ((0, 1, 1, 1), (0, 2, 1, 2)), (1, 1, 1), (4, 0))
STEEP = Map(2, ((0, 1, 4, 2),), (1, None), (4, 0))
NOT_NEWS = (
    None,
    True,
    0,
    "00",
    b"00",
    (),
    [],
    {},
    object(),
    [0, 0],
    (0,),
    (0, 0, 0),
    ((0, 0),),
    (False, 0),
    (0, False),
    (True, 0),
    ("0", 0),
    (0, None),
    ([], 0),
    (-1, 0),
    (0, -1),
    (2, -1),
    (2, 0),
    (0, 2),
    (1, 1),
    (10**20, 0),
    (-(10**20), 1),
)


class PaidWith(unittest.TestCase):
    def test_the_line(self):
        found = {driver: [paid_with(LINE, driver, 1, news) for news in own_news((3, LINE.roads), 1)] for driver in DRIVERS}
        self.assertEqual(found["bare"], [14, None, None])
        self.assertEqual(found["safe"], [16, 16, 16])
        self.assertEqual(found["fill"], [18, 18, 23])
        self.assertEqual(found["thrifty"], [18, 18, 23])

    def test_the_lateness_counts_too(self):
        # Nothing is late, but the driver does not know it.
        self.assertEqual([paid_with(SHORT, "safe", late, (0,)) for late in range(5)], [6, 9, 9, 9, 9])
        self.assertEqual([paid_with(SHORT, "bare", late, (0,)) for late in range(5)], [6] * 5)
        self.assertEqual([paid_with(SHORT, "safe", 2, (more,)) for more in range(3)], [9, 9, None])

    def test_roads_that_it_does_not_take(self):
        for late in range(5):
            for more in range(late + 1):
                self.assertEqual(paid_with(TWIN, "bare", late, (0, more)), 3)

    def test_where_no_road_leads_on(self):
        for driver in DRIVERS:
            self.assertIsNone(paid_with(STUCK, driver, 1, (0, 0)))
        self.assertIsNone(paid_with(Map(3, ((1, 2, 1, 1),), (1, 1, 1), (4, 0)), "fill", 0, (0,)))

    def test_against_the_tests_own(self):
        chance, paid = random.Random(121), []
        for parts in many_parts(122, 80) + list(BOUNDS):
            chart = Map(*parts)
            for late in range(5):
                every = own_news(parts, late)
                for news, driver in product(chance.sample(every, min(5, len(every))), DRIVERS):
                    paid.append(own_paid(parts, driver, late, news))
                    self.assertEqual(paid_with(chart, driver, late, news), paid[-1], (parts, driver, late, news))
        self.assertGreater(paid.count(None), 300)
        self.assertGreater(len(paid) - paid.count(None) - paid.count(0), 300)

    def test_the_greatest_is_the_cost_of_the_driver(self):
        for parts in many_parts(123, 40, most_roads=4):
            for driver, late in product(DRIVERS, (0, 1, 3)):
                found = [paid_with(Map(*parts), driver, late, news) for news in own_news(parts, late)]
                cost = None if None in found else max(found)
                self.assertEqual(cost, driver_cost(Map(*parts), start(late), driver))
                self.assertEqual(cost, own_driver_cost(parts, start(late), driver))

    def test_maps_with_too_many_plans(self):
        for parts in (*ABOVE, CHAIN):
            news = (0,) * len(parts[1])
            for driver in DRIVERS:
                self.assertEqual(paid_with(Map(*parts), driver, 4, news), own_paid(parts, driver, 4, news))


class Search(unittest.TestCase):
    def check(self, parts, late, drivers=DRIVERS):
        chart, reader, numbers = Map(*parts), Reader(parts), []
        for driver in drivers:
            number, found = reader.greatest_regret(driver, late), regret(chart, driver, late)
            self.assertEqual(greatest_regret(chart, driver, late), number, (parts, driver, late))
            self.assertTrue(found.shows(chart, driver, late), (parts, driver, late))
            if number is None:
                self.assertIs(type(found), NoRegret)
                self.assertTrue(reader.right_noregret(driver, late, found.news), (parts, driver, late))
            else:
                self.assertIs(type(found), Regret)
                self.assertEqual(found.number, number)
                self.assertTrue(reader.right_regret(driver, late, number, found.news, found.plan), (parts, driver, late))
                self.assertGreaterEqual(number, 0)
            numbers.append(number)
        return numbers

    def test_many_small_maps(self):
        numbers = []
        for parts in small_parts(124, 80, most_roads=4):
            for late in (0, 1, 2):
                numbers += self.check(parts, late)
        self.assertGreater(numbers.count(None), 100)
        self.assertGreater(numbers.count(0), 40)
        self.assertGreater(len(numbers) - numbers.count(None) - numbers.count(0), 60)

    def test_each_lateness(self):
        for parts in small_parts(125, 12, most_roads=3):
            for late in range(5):
                self.check(parts, late)

    def test_maps_with_more_roads(self):
        for parts in small_parts(126, 8, most_room=4):
            for late in (0, 2):
                self.check(parts, late)

    def test_maps_on_which_drivers_arrive(self):
        found = [parts for parts in small_parts(127, 200, most_roads=3) if own_driver_cost(parts, start(3), "fill") is not None]
        self.assertGreater(len(found), 8)
        for parts in found:
            self.check(parts, 3)

    def test_at_the_limit(self):
        for late in (0, 2):
            self.check(EDGE, late, ("safe", "fill"))
            self.check(THIN, late, ("bare", "thrifty"))


class Answers(unittest.TestCase):
    def test_the_document(self):
        self.assertEqual([greatest_regret(SHORT, driver, 1) for driver in DRIVERS], [None, 3, 3, 3])
        self.assertEqual(regret(SHORT, "safe", 1), Regret(3, (0,), ((2, 0),)))
        self.assertEqual(regret(SHORT, "bare", 1), NoRegret((1,)))

    def test_the_line(self):
        self.assertEqual([greatest_regret(LINE, driver, 0) for driver in DRIVERS], [6, 6, 10, 10])
        self.assertEqual([greatest_regret(LINE, driver, 1) for driver in DRIVERS], [None, 8, 10, 10])

    def test_a_driver_that_pays_no_more_than_it_must(self):
        chart = Map(2, ((0, 1, 2, 1),), (3, None), (6, 2))
        for late in range(5):
            self.assertEqual(greatest_regret(chart, "safe", late), min(6, 2 + late) * 3)
        chart = Map(2, ((0, 1, 2, 0),), (3, None), (6, 2))
        for late in range(5):
            self.assertEqual([greatest_regret(chart, driver, late) for driver in DRIVERS], [0, 0, 18, 18])

    def test_another_road_is_the_better_one_with_some_news(self):
        chart = Map(2, ((0, 1, 1, 1), (0, 1, 2, 1)), (3, None), (6, 0))
        # It buys three pieces, and one is enough where nothing is late, two on the other road in any case.
        found = regret(chart, "safe", 2)
        self.assertEqual((found.number, found.news[0], found.plan), (6, 0, ((1, 0),)))
        dear = Map(2, ((0, 1, 1, 1), (0, 1, 2, 0)), (3, None), (6, 0))
        self.assertEqual([greatest_regret(dear, driver, 2) for driver in DRIVERS], [0, 0, 18, 18])

    def test_drivers_that_fail_with_some_news(self):
        found = regret(TWIN, "bare", 1)
        self.assertEqual(found, NoRegret((1, 0)))
        self.assertEqual([greatest_regret(TWIN, "bare", late) for late in range(5)], [0, None, None, None, None])

    def test_a_place_from_which_no_road_leads(self):
        for driver, late in product(DRIVERS, range(5)):
            found = regret(STUCK, driver, late)
            self.assertIs(type(found), NoRegret)
            self.assertTrue(found.shows(STUCK, driver, late))
            self.assertIsNone(greatest_regret(STUCK, driver, late))

    def test_no_plan_is_enough(self):
        for chart, driver, late in product((STEEP, NOWHERE), DRIVERS, range(5)):
            self.assertIs(type(regret(chart, driver, late)), NoRegret)
            for news in own_news((2, chart.roads), late):
                self.assertTrue(NoRegret(news).shows(chart, driver, late))
        # With some news, there is a plan; with others, there is none.
        self.assertEqual(regret(SHORT, "fill", 2), NoRegret((2,)))

    def test_time_at_the_limit(self):
        begin = time.process_time()
        for parts, driver in product((EDGE, THIN), DRIVERS):
            regret(Map(*parts), driver, 4).shows(Map(*parts), driver, 4)
        self.assertLess(time.process_time() - begin, 30)


class RegretShows(unittest.TestCase):
    def shows(self, number=3, news=(0,), plan=((2, 0),), chart=SHORT, driver="safe", late=1):
        return Regret(number, news, plan).shows(chart, driver, late)

    def test_right(self):
        self.assertTrue(self.shows())
        self.assertTrue(self.shows(driver="fill"))
        self.assertTrue(self.shows(0, (0,), ((2, 0),), driver="bare", late=0))

    def test_right_ones_that_are_not_the_returned_ones(self):
        chart = Map(2, ((0, 1, 1, 1), (0, 1, 1, 2), (0, 1, 2, 1)), (3, None), (6, 1))
        # Bearing one warm hour, nobody must pay; the driver fills its box whatever the news are.
        for news, plans in (((0, 0, 0), (((0, 0),), ((0, 1),))), ((0, 1, 0), (((0, 0),),)), ((1, 0, 0), (((0, 1),),))):
            for plan in (((0, 0),), ((0, 1),), ((0, 2),), ((1, 0),), ((1, 2),)):
                self.assertEqual(self.shows(18, news, plan, chart, "fill", 1), plan in plans, (news, plan))

    def test_another_number(self):
        for number in (-1, 0, 2, 4, 6, 9, 10**20):
            for news, plan in (((0,), ((2, 0),)), ((1,), ((3, 0),)), ((0,), ((3, 0),)), ((1,), ((2, 0),))):
                self.assertFalse(self.shows(number, news, plan))

    def test_news_with_which_it_is_less(self):
        self.assertFalse(self.shows(0, (1,), ((3, 0),)))
        self.assertFalse(self.shows(3, (1,), ((3, 0),)))
        self.assertFalse(self.shows(3, (1,), ((2, 0),)))

    def test_what_is_no_news(self):
        for news in ((), (0, 0), (-1,), (2,), (10**20,), (False,)):
            self.assertFalse(self.shows(news=news), news)

    def test_other_plans(self):
        for plan in ((), ((0, 0),), ((1, 0),), ((3, 0),), ((4, 0),), ((2, 1),), ((2, -1),), ((2, 0), (0, 0)), (2, 0), ((2,),)):
            self.assertFalse(self.shows(plan=plan), plan)
        for plan in (((2, False),), ((True, 0),)):
            self.assertFalse(self.shows(plan=plan), plan)
        right = regret(LINE, "safe", 1)
        for plan in all_plans(LINE) + list(NOT_PLANS):
            expected = plan == right.plan
            self.assertEqual(Regret(right.number, right.news, plan).shows(LINE, "safe", 1), expected, plan)

    def test_where_there_is_none(self):
        self.assertFalse(self.shows(0, (0,), ((2, 0),), driver="bare"))
        self.assertFalse(self.shows(3, (0,), ((2, 0),), driver="safe", late=2))
        self.assertFalse(self.shows(3, (0,), ((2, 0),), driver="fill", late=2))
        for number, plan in product((0, 1), ((), ((0, 1),), ((2, 1),))):
            self.assertFalse(self.shows(number, (0, 0), plan, STUCK, "fill", 1))

    def test_for_another_driver_lateness_or_map(self):
        self.assertFalse(self.shows(driver="bare"))
        for late in (0, 2, 3, 4):
            self.assertFalse(self.shows(late=late))
        self.assertFalse(self.shows(chart=Map(2, SHORT.roads, (4, None), SHORT.box)))
        self.assertFalse(self.shows(chart=Map(2, SHORT.roads, SHORT.prices, (4, 0)), driver="fill"))
        self.assertTrue(self.shows(chart=Map(2, SHORT.roads, SHORT.prices, (4, 0))))
        self.assertFalse(self.shows(chart=LINE))
        self.assertTrue(self.shows(10, (0, 0), ((4, 0), (0, 1)), LINE, "fill"))
        self.assertFalse(self.shows(10, (0, 0), ((4, 0), (0, 1)), LINE, "safe"))
        self.assertTrue(self.shows(8, (0, 0), ((4, 0), (0, 1)), LINE, "safe"))

    def test_attributes_that_change(self):
        found = regret(SHORT, "safe", 1)
        for name, wrong in (("number", 2), ("news", (1,)), ("plan", ((3, 0),)), ("plan", ())):
            kept = getattr(found, name)
            setattr(found, name, wrong)
            self.assertFalse(found.shows(SHORT, "safe", 1))
            setattr(found, name, kept)
            self.assertTrue(found.shows(SHORT, "safe", 1))


class NoRegretShows(unittest.TestCase):
    def test_each_news(self):
        for driver, news in product(DRIVERS, product(range(-1, 4), repeat=2)):
            right = min(news) >= 0 and sum(news) <= 2
            self.assertEqual(NoRegret(news).shows(TWIN, driver, 2), right and driver == "bare" and news[0] > 0, (driver, news))
            right = right and sum(news) <= 1
            self.assertEqual(NoRegret(news).shows(LINE, driver, 1), right and driver == "bare" and sum(news) > 0)

    def test_other_news(self):
        for news in ((), (0, 0), (-1,), (2,), (10**20,), (True,), (0,)):
            self.assertFalse(NoRegret(news).shows(SHORT, "bare", 1), news)
        self.assertTrue(NoRegret((1,)).shows(SHORT, "bare", 1))
        self.assertTrue(NoRegret((2,)).shows(SHORT, "fill", 2))
        self.assertFalse(NoRegret((1,)).shows(SHORT, "fill", 2))

    def test_attributes_that_change(self):
        found = regret(SHORT, "bare", 1)
        for news, right in (((0,), False), ((1,), True), ((2,), False), ((), False)):
            found.news = news
            self.assertEqual(found.shows(SHORT, "bare", 1), right)


class Changed(unittest.TestCase):
    """What is wrong in one thing, against what the tests themselves say of it."""

    def changed_news(self, chance, news, late):
        if not chance.randrange(5):
            return news[:-1]
        at = chance.randrange(len(news))
        return (*news[:at], chance.randint(-1, late + 1), *news[at + 1 :])

    def test_all(self):
        chance, answers = random.Random(128), {Regret: [], NoRegret: []}
        for parts in small_parts(129, 60, most_roads=4):
            chart, reader, plans = Map(*parts), Reader(parts), own_plans(parts)
            for late, driver in product((0, 1, 2), DRIVERS):
                found = regret(chart, driver, late)
                for _ in range(4):
                    kind, news = chance.randrange(3), found.news
                    if kind == 0 or isinstance(found, NoRegret):
                        news = self.changed_news(chance, news, late)
                    if isinstance(found, Regret):
                        number = found.number + (chance.choice((-1, 1)) if kind == 1 else 0)
                        plan = chance.choice(plans) if kind == 2 else found.plan
                        right, other = reader.right_regret(driver, late, number, news, plan), Regret(number, news, plan)
                    else:
                        right, other = reader.right_noregret(driver, late, news), NoRegret(news)
                    self.assertEqual(other.shows(chart, driver, late), right, (parts, driver, late, vars(other)))
                    answers[type(found)].append(right)
        for told in answers.values():
            self.assertGreater(told.count(True), 50)
            self.assertGreater(told.count(False), 100)


class Conventions(unittest.TestCase):
    def test_equality(self):
        one = Regret(3, (0,), ((2, 0),))
        self.assertTrue(one == Regret(3, (0,), ((2, 0),)))
        self.assertFalse(one != Regret(3, (0,), ((2, 0),)))
        for other in (Regret(2, (0,), ((2, 0),)), Regret(3, (1,), ((2, 0),)), Regret(3, (0,), ((3, 0),)), NoRegret((0,))):
            self.assertFalse(one == other)
            self.assertTrue(one != other)
        self.assertTrue(NoRegret((0,)) == NoRegret((0,)))
        self.assertTrue(NoRegret((0,)) != NoRegret((1,)))

    def test_answers_are_new(self):
        for driver in DRIVERS:
            first, expected = regret(SHORT, driver, 1), regret(SHORT, driver, 1)
            self.assertIsNot(first, expected)
            self.assertEqual(first, expected)
            first.news = None
            self.assertEqual(regret(SHORT, driver, 1), expected)
            self.assertTrue(expected.shows(SHORT, driver, 1))

    def test_showing_changes_nothing(self):
        for driver in DRIVERS:
            found = regret(SHORT, driver, 1)
            for other, late in product(DRIVERS, range(5)):
                found.shows(SHORT, other, late)
                found.shows(LINE, other, late)
            self.assertEqual(found, regret(SHORT, driver, 1))

    def test_keywords(self):
        found = regret(chart=SHORT, driver="safe", late=1)
        self.assertEqual(found, Regret(number=3, news=(0,), plan=((2, 0),)))
        self.assertTrue(found.shows(chart=SHORT, driver="safe", late=1))
        self.assertEqual(paid_with(chart=SHORT, driver="safe", late=1, news=(0,)), 9)
        self.assertEqual(NoRegret(news=(1,)), NoRegret((1,)))


class Wrong(unittest.TestCase):
    CALLS = (regret, greatest_regret, Regret(3, (0,), ((2, 0),)).shows, NoRegret((0,)).shows)

    def calls(self):
        for call in self.CALLS:
            yield call
        for news in ((0, 0), None):
            yield lambda chart, driver, late, news=news: paid_with(chart, driver, late, news)

    def test_no_map(self):
        for call, chart, driver, late in product(self.calls(), NOT_MAPS, ("safe", None), (0, None)):
            with self.assertRaises(BadMap) as caught:
                call(chart, driver, late)
            self.assertIsNone(caught.exception.part)

    def test_no_driver(self):
        for call, driver, chart, late in product(self.calls(), NOT_DRIVERS, (LINE, BIG), (0, None)):
            with self.assertRaises(BadDriver):
                call(chart, driver, late)

    def test_no_lateness(self):
        for call, late, chart in product(self.calls(), NOT_LATENESSES, (LINE, BIG)):
            with self.assertRaises(BadLateness):
                call(chart, "safe", late)

    def test_no_news(self):
        for news, driver in product(NOT_NEWS, DRIVERS):
            with self.assertRaises(BadNews):
                paid_with(LINE, driver, 1, news)
        for late in range(5):
            self.assertEqual(paid_with(LINE, "fill", late, (0, 0)), 18)
            with self.assertRaises(BadNews):
                paid_with(LINE, "fill", late, (late, 1))
        with self.assertRaises(BadNews):
            paid_with(BIG, "fill", 1, (0, 0))

    def test_too_large(self):
        for call, parts, driver, late in product(self.CALLS, (*ABOVE, CHAIN), DRIVERS, (0, 4)):
            with self.assertRaises(TooLarge):
                call(Map(*parts), driver, late)


if __name__ == "__main__":
    unittest.main()
