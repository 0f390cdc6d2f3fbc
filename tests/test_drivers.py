import random
import time
import unittest

from coolway.drivers import DRIVERS, Arrives, Fails, driver_cost, judge, next_move
from coolway.errors import BadDriver, BadMap, BadState
from coolway.maps import Map, moves
from search import BOUNDS, CHAIN, WIDE, all_states, many_parts
from test_moves import NOT_MAPS, NOT_STATES
from ways import (
    own_arrives,
    own_choice,
    own_driver_cost,
    own_runs,
    right_arrives,
    right_driver_heights,
    right_fails,
    start,
)

LINE = Map(3, ((0, 1, 2, 1), (1, 2, 2, 1)), (2, 5, None), (4, 0))
# A map of which the states in NOT_STATES are none.
WARM = Map(3, LINE.roads, LINE.prices, (4, 1))
LATE = start(1)
HEIGHTS = {LATE: 16, (1, 1, 0, 1): 10, (1, 0, 0, 0): 10, (2, 1, 0, 1): 0, (2, 0, 0, 0): 0}
# Behind the place 0 lies a place from which no road leads.
STUCK = Map(3, ((0, 1, 1, 1), (0, 2, 1, 2)), (1, 1, 1), (4, 0))
NOT_DRIVERS = (
    None,
    True,
    0,
    "",
    "Bare",
    "bare ",
    " safe",
    "saf",
    "driver",
    b"bare",
    ("bare",),
    ["bare"],
    {"bare": 1},
    {"bare"},
    object(),
    Map,
    DRIVERS,
    len,
)


def one_road(hours, melt, prices=(2, None), room=6, bear=0):
    return Map(2, ((0, 1, hours, melt),), prices, (room, bear))


def choices(chart, state):
    return [next_move(chart, state, driver) for driver in DRIVERS]


class Roads(unittest.TestCase):
    def road(self, roads, place=0, places=3, late=0):
        chart = Map(places, roads, (1,) * places, (6, 2))
        found = {next_move(chart, (place, 6, 0, late), driver) for driver in DRIVERS}
        self.assertEqual({pieces for pieces, _ in found}, {0})
        self.assertEqual(len(found), 1)
        return found.pop()[1]

    def test_where_the_least_ice_melts(self):
        self.assertEqual(self.road(((0, 1, 1, 3), (0, 1, 2, 1), (0, 2, 3, 1))), 1)
        self.assertEqual(self.road(((0, 1, 1, 3), (0, 1, 4, 1), (0, 2, 1, 2))), 2)
        self.assertEqual(self.road(((0, 1, 2, 2), (0, 2, 1, 3))), 1)
        self.assertEqual(self.road(((0, 1, 1, 1), (0, 2, 4, 0))), 1)

    def test_in_its_hours_alone(self):
        # Whatever is late: in three hours more, it would be the other way round.
        for late in range(5):
            self.assertEqual(self.road(((0, 1, 1, 3), (0, 1, 4, 1)), late=late), 0)

    def test_of_several_the_first_one(self):
        self.assertEqual(self.road(((0, 1, 1, 2), (0, 1, 2, 1))), 0)
        self.assertEqual(self.road(((0, 1, 1, 3), (0, 1, 2, 1), (0, 2, 1, 2), (0, 2, 2, 1))), 1)
        self.assertEqual(self.road(((0, 1, 1, 0), (0, 1, 4, 0), (0, 2, 1, 0))), 0)
        self.assertEqual(self.road(((0, 1, 3, 3), (0, 1, 4, 0), (0, 2, 1, 0))), 1)
        self.assertEqual(self.road(((0, 1, 2, 3), (0, 2, 3, 2)), late=4), 0)

    def test_only_those_from_the_place(self):
        roads = ((0, 1, 1, 0), (1, 2, 2, 2), (1, 3, 1, 3), (2, 3, 1, 0))
        self.assertEqual([self.road(roads, place=place, places=4) for place in range(3)], [0, 2, 3])


class Pieces(unittest.TestCase):
    def test_the_line(self):
        self.assertEqual(choices(LINE, LATE), [(2, 0), (3, 0), (4, 0), (4, 0)])
        self.assertEqual(choices(LINE, (1, 2, 0, 1)), [(0, 1), (1, 1), (2, 1), (2, 1)])

    def test_what_is_missing(self):
        chart = one_road(2, 1)
        for ice in range(7):
            wanted = [max(0, want - ice) for want in (2, 3, 6, 6)]
            self.assertEqual(choices(chart, (0, ice, 0, 1)), [(pieces, 0) for pieces in wanted])

    def test_all_hours_that_may_still_be_late(self):
        chart = one_road(1, 1)
        self.assertEqual([next_move(chart, start(late), "safe") for late in range(5)], [(late + 1, 0) for late in range(5)])
        self.assertEqual([next_move(chart, start(late), "bare") for late in range(5)], [(1, 0)] * 5)
        chart = one_road(1, 2)
        self.assertEqual([next_move(chart, start(late), "safe") for late in range(3)], [(2, 0), (4, 0), (6, 0)])
        chart = one_road(4, 0)
        self.assertEqual([next_move(chart, start(late), "safe") for late in range(5)], [(0, 0)] * 5)

    def test_as_far_as_there_is_room(self):
        chart = one_road(4, 3, room=5)
        for ice in range(6):
            for late in (0, 4):
                self.assertEqual(choices(chart, (0, ice, 0, late)), [(5 - ice, 0)] * 4)

    def test_no_ice_at_the_place(self):
        for prices in ((None, None), (None, 1)):
            chart = one_road(2, 2, prices=prices)
            for ice in (0, 3, 6):
                self.assertEqual(choices(chart, (0, ice, 0, 2)), [(0, 0)] * 4)

    def test_thrifty(self):
        for price in range(1, 10):
            for there in range(1, 10):
                chart = one_road(2, 1, prices=(price, there))
                for late in range(5):
                    wanted = 6 if there > price else 2 + late
                    self.assertEqual(next_move(chart, start(late), "thrifty"), (wanted, 0))
            chart = one_road(2, 1, prices=(price, None))
            self.assertEqual(next_move(chart, (0, 1, 0, 0), "thrifty"), (5, 0))
        # It looks only as far as its road leads.
        chart = Map(3, ((0, 1, 1, 1), (1, 2, 1, 1)), (3, 3, None), (6, 0))
        self.assertEqual(choices(chart, start(1)), [(1, 0), (2, 0), (6, 0), (2, 0)])
        self.assertEqual(choices(chart, (1, 0, 0, 1)), [(1, 1), (2, 1), (6, 1), (6, 1)])

    def test_more_ice_than_wanted(self):
        self.assertEqual(choices(LINE, (0, 4, 0, 0)), [(0, 0)] * 4)
        self.assertEqual(choices(LINE, (1, 3, 0, 0)), [(0, 1), (0, 1), (1, 1), (1, 1)])


class NextMove(unittest.TestCase):
    def test_no_move(self):
        for state in ((2, 0, 0, 0), (2, 4, 0, 4)):
            self.assertEqual(choices(LINE, state), [None] * 4)
        for state in ((1, 0, 0, 0), (1, 4, 0, 4)):
            self.assertEqual(choices(STUCK, state), [None] * 4)

    def test_against_the_tests_own(self):
        for parts in many_parts(61, 40) + list(BOUNDS):
            chart = Map(*parts)
            for state in all_states(parts):
                for driver in DRIVERS:
                    found = next_move(chart, state, driver)
                    self.assertEqual(found, own_choice(parts, state, driver), (parts, state, driver))
                    self.assertTrue(found is None or found in moves(chart, state))

    def test_the_words(self):
        self.assertEqual(DRIVERS, ("bare", "safe", "fill", "thrifty"))
        self.assertIs(type(DRIVERS), tuple)


class Judge(unittest.TestCase):
    def check(self, parts, states):
        costs = []
        for state in states:
            for driver in DRIVERS:
                chart, cost, found = Map(*parts), own_driver_cost(parts, state, driver), judge(Map(*parts), state, driver)
                self.assertEqual(driver_cost(chart, state, driver), cost, (parts, state, driver))
                self.assertTrue(found.shows(chart, state, driver), (parts, state, driver))
                if cost is None:
                    self.assertIs(type(found), Fails)
                    self.assertTrue(right_fails(parts, state, driver, found.delays))
                else:
                    self.assertIs(type(found), Arrives)
                    told = (found.cost, found.delays, found.heights)
                    self.assertTrue(right_arrives(parts, state, driver, *told), (parts, state, driver))
                costs.append(cost)
        return costs

    def test_many_maps_from_the_beginning(self):
        costs = []
        for parts in many_parts(62, 80):
            costs += self.check(parts, [start(late) for late in range(5)])
        self.assertGreater(costs.count(None), 200)
        self.assertGreater(len(costs) - costs.count(None) - costs.count(0), 200)

    def test_many_maps_from_some_states(self):
        chance = random.Random(63)
        for parts in many_parts(64, 60):
            self.check(parts, chance.sample(all_states(parts), 8))

    def test_all_states_of_small_maps(self):
        for parts in many_parts(65, 8, most_places=3, most_roads=3, most_room=3):
            self.check(parts, all_states(parts))

    def test_maps_at_the_bounds(self):
        for parts in BOUNDS:
            self.check(parts, [start(late) for late in range(5)])

    def test_the_line(self):
        self.assertEqual([driver_cost(LINE, LATE, driver) for driver in DRIVERS], [None, 16, 23, 23])
        self.assertEqual([driver_cost(LINE, start(0), driver) for driver in DRIVERS], [14, 14, 18, 18])
        self.assertIn(judge(LINE, LATE, "bare").delays, ((1,), (0, 1)))

    def test_the_worst_delays_are_not_the_longest_ones(self):
        # Early, the ice behind the first road is still enough for a late second one.
        chart = Map(3, ((0, 1, 1, 3), (1, 2, 1, 1)), (1, 9, None), (6, 0))
        self.assertEqual(driver_cost(chart, LATE, "safe"), 6 + 9)
        self.assertEqual(judge(chart, LATE, "safe").delays, (1, 0))
        # Who is not late on the first road must be ready to be late on the second one.
        chart = Map(3, ((0, 1, 1, 0), (1, 2, 1, 3)), (1, 9, None), (6, 0))
        found = judge(chart, LATE, "safe")
        self.assertEqual((found.cost, found.delays[0]), (6 * 9, 0))
        self.assertTrue(Arrives(54, (0, 1), found.heights).shows(chart, LATE, "safe"))
        self.assertTrue(Arrives(54, (0, 0), found.heights).shows(chart, LATE, "safe"))
        self.assertFalse(Arrives(54, (1, 0), found.heights).shows(chart, LATE, "safe"))

    def test_at_the_goal(self):
        for driver in DRIVERS:
            for state in ((2, 0, 0, 0), (2, 3, 0, 4)):
                found = judge(LINE, state, driver)
                self.assertEqual((type(found), found.cost, found.delays), (Arrives, 0, ()))
                self.assertTrue(found.shows(LINE, state, driver))
                self.assertEqual(driver_cost(LINE, state, driver), 0)

    def test_where_no_road_leads_on(self):
        for driver in DRIVERS:
            self.assertEqual(judge(STUCK, (1, 2, 0, 3), driver), Fails(()))
            found = judge(STUCK, (0, 4, 0, 0), driver)
            self.assertEqual(found, Fails((0,)))
            self.assertIsNone(driver_cost(STUCK, (0, 4, 0, 0), driver))
        # Nothing spoils behind "fill", but the driver comes to where no road leads on.
        self.assertTrue(Fails((2,)).shows(STUCK, start(2), "fill"))

    def test_bare_fails_only_where_something_melts(self):
        chart = one_road(3, 0)
        self.assertEqual([driver_cost(chart, start(late), "bare") for late in range(5)], [0] * 5)
        chart = one_road(1, 1, bear=2)
        self.assertEqual([driver_cost(chart, start(late), "bare") for late in range(5)], [2, 2, 2, None, None])

    def test_time_at_the_bounds(self):
        begin = time.process_time()
        for parts in BOUNDS:
            for driver in DRIVERS:
                judge(Map(*parts), start(4), driver).shows(Map(*parts), start(4), driver)
        self.assertLess(time.process_time() - begin, 20)


class ArrivesShows(unittest.TestCase):
    def shows(self, cost=16, delays=(0, 0), heights=None, state=LATE, driver="safe", chart=LINE):
        return Arrives(cost, delays, HEIGHTS if heights is None else heights).shows(chart, state, driver)

    def test_right(self):
        self.assertTrue(self.shows())
        for delays in ((0, 1), (1, 0)):
            self.assertTrue(self.shows(delays=delays))
        self.assertTrue(self.shows(heights=dict(reversed(list(HEIGHTS.items())))))
        self.assertTrue(self.shows(heights={**HEIGHTS, (2, 4, 0, 4): 99, (2, 3, 0, 0): 0}))
        self.assertTrue(self.shows(heights={**HEIGHTS, (1, 2, 0, 0): 0}))

    def test_other_delays(self):
        for delays in ((1, 1), (2, 0), (0, 2), (-1, 0), (0, -1), (1, -1), (2, -1), (10**20, 0)):
            self.assertFalse(self.shows(delays=delays), delays)
        for delays in ((), (0,), (1,), (0, 0, 0), (0, 1, 0), (1, 0, 0)):
            self.assertFalse(self.shows(delays=delays), delays)

    def test_another_cost(self):
        for cost in (-1, 0, 15, 17, 10**20):
            self.assertFalse(self.shows(cost=cost))
            self.assertFalse(self.shows(cost=cost, heights={**HEIGHTS, LATE: cost}))

    def test_delays_with_which_it_costs_less(self):
        chart = Map(3, ((0, 1, 1, 3), (1, 2, 1, 1)), (1, 9, None), (6, 0))
        found = judge(chart, LATE, "safe")
        self.assertTrue(found.shows(chart, LATE, "safe"))
        for delays in ((0, 0), (0, 1)):
            self.assertFalse(Arrives(15, delays, found.heights).shows(chart, LATE, "safe"))
            self.assertFalse(Arrives(6, delays, found.heights).shows(chart, LATE, "safe"))
            self.assertFalse(Arrives(6, delays, {**found.heights, LATE: 6}).shows(chart, LATE, "safe"))

    def test_other_heights(self):
        for state in HEIGHTS:
            heights = {at: HEIGHTS[at] for at in HEIGHTS if at != state}
            self.assertFalse(self.shows(heights=heights), state)
        self.assertFalse(self.shows(heights={}))
        for state, height in HEIGHTS.items():
            self.assertFalse(self.shows(heights={**HEIGHTS, state: height - 1}), state)
            self.assertFalse(self.shows(heights={**HEIGHTS, state: height + 1}), state)
        # What need not be there must be right as well.
        for state, height in (((2, 4, 0, 4), -1), ((1, 2, 0, 4), 99), ((0, 0, 0, 4), 99), ((1, 1, 0, 0), 4), ((1, 4, 0, 3), 99)):
            self.assertFalse(self.shows(heights={**HEIGHTS, state: height}), state)
        self.assertTrue(self.shows(heights={**HEIGHTS, (1, 1, 0, 0): 5}))

    def test_heights_of_the_driver_not_of_the_best_move(self):
        # Going without ice is enough here, but the driver buys.
        chart = one_road(1, 1, bear=1)
        ends = {(1, 0, 0, 0): 0, (1, 0, 1, 0): 0}
        self.assertTrue(Arrives(2, (0,), {start(0): 2, **ends}).shows(chart, start(0), "bare"))
        for cost in (0, 1):
            self.assertFalse(Arrives(cost, (0,), {start(0): cost, **ends}).shows(chart, start(0), "bare"))
            self.assertFalse(Arrives(2, (0,), {start(0): cost, **ends}).shows(chart, start(0), "bare"))
        self.assertFalse(Arrives(2, (0,), {start(0): 2, (1, 0, 1, 0): 0}).shows(chart, start(0), "bare"))

    def test_heights_where_no_road_leads_on(self):
        chart = Map(4, ((0, 1, 1, 1), (0, 3, 1, 0), (2, 3, 1, 1)), (1, 1, 1, 1), (4, 0))
        found = judge(chart, start(0), "safe")
        self.assertEqual((found.cost, found.delays), (0, (0,)))
        found.heights[(1, 0, 0, 0)] = 5
        self.assertFalse(found.shows(chart, start(0), "safe"))

    def test_at_the_goal(self):
        goal = (2, 1, 0, 3)
        self.assertTrue(self.shows(0, (), {goal: 0}, state=goal))
        self.assertFalse(self.shows(0, (0,), {goal: 0}, state=goal))
        self.assertFalse(self.shows(0, (), {}, state=goal))
        self.assertFalse(self.shows(0, (), {goal: 1}, state=goal))
        self.assertFalse(self.shows(0, (), {goal: -1}, state=goal))
        self.assertFalse(self.shows(1, (), {goal: 1}, state=goal))

    def test_where_it_fails(self):
        heights = {start(0): 9, (1, 3, 0, 0): 9, (1, 0, 0, 0): 9}
        for delays in ((0,), (), (0, 0)):
            for cost in (0, 1, 4, 9):
                self.assertFalse(Arrives(cost, delays, heights).shows(STUCK, start(0), "fill"))
        self.assertFalse(Arrives(0, (), {(1, 0, 0, 0): 0}).shows(STUCK, (1, 0, 0, 0), "safe"))
        self.assertFalse(self.shows(driver="bare"))
        self.assertFalse(self.shows(14, (0, 0), {**HEIGHTS, LATE: 14}, driver="bare"))
        # Some delays arrive, but others spoil the goods.
        chart = one_road(1, 1)
        heights = {LATE: 2, (1, 0, 0, 1): 0, (1, 0, 0, 0): 0}
        self.assertFalse(Arrives(2, (0,), heights).shows(chart, LATE, "bare"))
        self.assertFalse(Arrives(2, (1,), heights).shows(chart, LATE, "bare"))
        self.assertTrue(Arrives(2, (0,), {start(0): 2, (1, 0, 0, 0): 0}).shows(chart, start(0), "bare"))

    def test_for_another_state_driver_or_map(self):
        for state in (start(0), start(2), (0, 1, 0, 1), (1, 0, 0, 0)):
            self.assertFalse(self.shows(state=state))
        for driver in ("bare", "fill", "thrifty"):
            self.assertFalse(self.shows(driver=driver))
        for parts in ((3, LINE.roads, (3, 5, None), (4, 0)), (3, LINE.roads, LINE.prices, (2, 0))):
            self.assertFalse(self.shows(chart=Map(*parts)))
        self.assertTrue(self.shows(chart=Map(3, LINE.roads, LINE.prices, (3, 0))))

    def test_attributes_that_change(self):
        found = judge(LINE, LATE, "safe")
        found.cost = 15
        self.assertFalse(found.shows(LINE, LATE, "safe"))
        found.cost = 16
        self.assertTrue(found.shows(LINE, LATE, "safe"))
        found.delays = (1, 1)
        self.assertFalse(found.shows(LINE, LATE, "safe"))
        found.delays = (1, 0)
        self.assertTrue(found.shows(LINE, LATE, "safe"))
        kept = found.heights.pop(LATE)
        self.assertFalse(found.shows(LINE, LATE, "safe"))
        found.heights[LATE] = kept
        self.assertTrue(found.shows(LINE, LATE, "safe"))
        found.heights = {}
        self.assertFalse(found.shows(LINE, LATE, "safe"))


class FailsShows(unittest.TestCase):
    def test_right(self):
        self.assertTrue(Fails((1,)).shows(LINE, LATE, "bare"))
        self.assertTrue(Fails((0, 1)).shows(LINE, LATE, "bare"))
        for delays in ((1,), (2,), (0, 1), (0, 2)):
            self.assertTrue(Fails(delays).shows(LINE, start(2), "bare"))

    def test_other_delays(self):
        for delays in ((), (0,), (0, 0), (2,), (0, 2), (1, 0), (1, 1), (1, 0, 0), (0, 1, 0), (-1,), (0, -1), (10**20,)):
            self.assertFalse(Fails(delays).shows(LINE, LATE, "bare"), delays)

    def test_where_it_arrives(self):
        for delays in ((), (0,), (1,), (0, 0), (0, 1), (1, 0), (0, 0, 0)):
            self.assertFalse(Fails(delays).shows(LINE, LATE, "safe"), delays)
        for driver in DRIVERS:
            self.assertFalse(Fails(()).shows(LINE, (2, 0, 0, 4), driver))
            self.assertFalse(Fails((0,)).shows(LINE, (2, 0, 0, 4), driver))

    def test_where_no_road_leads_on(self):
        for driver in DRIVERS:
            self.assertTrue(Fails(()).shows(STUCK, (1, 0, 0, 1), driver))
            for delays in ((0,), (1,), (0, 0)):
                self.assertFalse(Fails(delays).shows(STUCK, (1, 0, 0, 1), driver))
        for delays in ((0,), (1,)):
            self.assertTrue(Fails(delays).shows(STUCK, LATE, "safe"))
        for delays in ((), (2,), (0, 0), (1, 0)):
            self.assertFalse(Fails(delays).shows(STUCK, LATE, "safe"))

    def test_attributes_that_change(self):
        found = judge(LINE, LATE, "bare")
        for delays, right in (((0,), False), ((1,), True), ((0, 1), True), ((0, 0), False), ((1, 0), False)):
            found.delays = delays
            self.assertEqual(found.shows(LINE, LATE, "bare"), right)


class Changed(unittest.TestCase):
    """What is wrong in one thing, against what the tests themselves say of it."""

    def changed_delays(self, chance, delays, late):
        kind = chance.randrange(3)
        if kind == 0:
            return delays + (chance.randrange(late + 1),)
        if kind == 1 or not delays:
            return delays[:-1]
        at = chance.randrange(len(delays))
        return (*delays[:at], chance.randint(-1, late + 1), *delays[at + 1 :])

    def changed(self, chance, found, states, late):
        cost, delays, heights = found.cost, found.delays, dict(found.heights)
        kind = chance.randrange(4)
        at = chance.choice(list(heights))
        if kind == 0:
            cost += chance.choice((-1, 1))
        elif kind == 1:
            delays = self.changed_delays(chance, delays, late)
        elif kind == 2:
            heights.pop(at)
        else:
            at = chance.choice((at, chance.choice(states)))
            heights[at] = heights.get(at, 0) + chance.choice((-2, -1, 1, 2, 60))
        return Arrives(cost, delays, heights)

    def test_all(self):
        chance, answers = random.Random(66), {Arrives: [], Fails: []}
        for parts in many_parts(67, 60, most_places=4):
            chart, states = Map(*parts), all_states(parts)
            for state in chance.sample(states, 3) + [start(0), start(2)]:
                driver = chance.choice(DRIVERS)
                found = judge(chart, state, driver)
                for _ in range(6):
                    if isinstance(found, Arrives):
                        other = self.changed(chance, found, states, state[3])
                        right = right_arrives(parts, state, driver, other.cost, other.delays, other.heights)
                    else:
                        other = Fails(self.changed_delays(chance, found.delays, state[3]))
                        right = right_fails(parts, state, driver, other.delays)
                    self.assertEqual(other.shows(chart, state, driver), right, (parts, state, driver, vars(other)))
                    answers[type(found)].append(right)
        for told in answers.values():
            self.assertGreater(told.count(True), 30)
            self.assertGreater(told.count(False), 100)

    def test_each_way(self):
        for parts in many_parts(68, 25, most_places=4):
            chart = Map(*parts)
            for driver in DRIVERS:
                found = judge(chart, start(2), driver)
                for delays, cost, end in own_runs(parts, start(2), driver):
                    good = own_arrives(parts, end)
                    self.assertEqual(Fails(delays).shows(chart, start(2), driver), not good)
                    if isinstance(found, Arrives):
                        other = Arrives(found.cost, delays, found.heights)
                        self.assertEqual(other.shows(chart, start(2), driver), good and cost == found.cost)
                        self.assertTrue(right_driver_heights(parts, driver, found.heights))


class Conventions(unittest.TestCase):
    def test_the_dict_is_copied(self):
        heights = dict(HEIGHTS)
        found = Arrives(16, (0, 0), heights)
        heights.clear()
        self.assertEqual(found.heights, HEIGHTS)
        found.heights[(2, 4, 0, 4)] = 1
        self.assertEqual(heights, {})

    def test_equality(self):
        one = Arrives(16, (0, 0), HEIGHTS)
        self.assertTrue(one == Arrives(16, (0, 0), dict(reversed(list(HEIGHTS.items())))))
        for other in (
            Arrives(15, (0, 0), HEIGHTS),
            Arrives(16, (0, 1), HEIGHTS),
            Arrives(16, (0,), HEIGHTS),
            Arrives(16, (0, 0), {}),
            Arrives(16, (0, 0), {**HEIGHTS, LATE: 15}),
            Fails((0, 0)),
        ):
            self.assertFalse(one == other)
            self.assertTrue(one != other)
        one = Fails((0, 1))
        self.assertTrue(one == Fails((0, 1)))
        for other in (Fails((0,)), Fails(()), Fails((1, 0)), Arrives(0, (0, 1), {})):
            self.assertFalse(one == other)
            self.assertTrue(one != other)

    def test_answers_are_new(self):
        for driver in DRIVERS:
            first, expected = judge(LINE, LATE, driver), judge(LINE, LATE, driver)
            self.assertIsNot(first, expected)
            self.assertEqual(first, expected)
            first.delays = (9,)
            if isinstance(first, Arrives):
                first.heights.clear()
            self.assertEqual(judge(LINE, LATE, driver), expected)
            self.assertTrue(expected.shows(LINE, LATE, driver))

    def test_showing_changes_nothing(self):
        for driver in DRIVERS:
            found, other = judge(LINE, LATE, driver), judge(LINE, LATE, driver)
            for state in (LATE, start(4), (2, 0, 0, 0)):
                for each in DRIVERS:
                    found.shows(LINE, state, each)
            self.assertEqual(found, other)


class Wrong(unittest.TestCase):
    CALLS = (next_move, judge, driver_cost, Arrives(16, (0, 0), HEIGHTS).shows, Fails((1,)).shows)

    def test_no_map(self):
        for call in self.CALLS:
            for chart in NOT_MAPS:
                for state, driver in ((LATE, "safe"), (None, "safe"), (LATE, None), (None, None)):
                    with self.assertRaises(BadMap) as caught:
                        call(chart, state, driver)
                    self.assertIsNone(caught.exception.part)

    def test_no_state(self):
        for call in self.CALLS:
            for state in NOT_STATES:
                for driver in ("safe", None):
                    with self.assertRaises(BadState):
                        call(WARM, state, driver)

    def test_no_driver(self):
        for call in self.CALLS:
            for driver in NOT_DRIVERS:
                for chart, state in ((LINE, LATE), (LINE, (2, 0, 0, 0)), (Map(*WIDE), LATE), (Map(*CHAIN), LATE)):
                    with self.assertRaises(BadDriver):
                        call(chart, state, driver)


if __name__ == "__main__":
    unittest.main()
