import random
import time
import unittest

from coolway.errors import BadLateness, BadMap, BadPlan, TooLarge
from coolway.maps import Map
from coolway.plans import Fixed, NoFixed, all_plans, fixed, fixed_cost, spoiling
from coolway.sure import sure_cost
from search import BOUNDS, CHAIN, LONG, many_parts
from test_moves import NOT_MAPS
from test_worths import NOT_LATENESSES
from ways import (
    own_delays,
    own_fixed_cost,
    own_number,
    own_plan_cost,
    own_plans,
    own_spoiling,
    right_fixed,
    right_nofixed,
)

LINE = Map(3, ((0, 1, 2, 1), (1, 2, 2, 1)), (2, 5, None), (4, 0))
TIGHT = Map(3, LINE.roads, LINE.prices, (2, 0))
FULL = ((4, 0), (1, 1))
# Two roads to the goal: one hour, or four.
TWIN = Map(2, ((0, 1, 1, 1), (0, 1, 4, 1)), (3, None), (4, 0))
NOWHERE = Map(3, ((0, 1, 1, 1),), (1, 1, 1), (6, 2))
CHOICE = ((0, 1, 1, 1), (0, 1, 1, 2), (0, 1, 2, 0), (0, 2, 1, 1), (1, 2, 1, 1), (2, 3, 1, 1))
# Exactly 400 plans, and the least numbers of plans above.
EDGE = (4, CHOICE, (1, 2, 3, None), (4, 1))
ABOVE = (
    (5, ((0, 1, 1, 1), (0, 2, 1, 1), (0, 4, 2, 1), (1, 2, 1, 1), (2, 3, 1, 1), (2, 4, 1, 2), (3, 4, 1, 1)), (1,) * 5, (3, 0)),
    (4, CHOICE[:4] + ((0, 3, 4, 1),) + CHOICE[4:], (1, 2, 3, None), (4, 1)),
)
BIG = Map(*CHAIN)
BIG_PLAN = ((6, 0), (6, 3), (0, 4), (2, 5))
# All places, but few choices.
THIN = (5, ((0, 1, 1, 1), (0, 1, 2, 1), (1, 2, 1, 1), (2, 3, 1, 2), (3, 4, 2, 1)), (2, None, 3, 1, None), (3, 1))
NOT_PLANS = (
    None,
    True,
    0,
    "40",
    b"40",
    (),
    [],
    {},
    object(),
    list(FULL),
    ([4, 0], (1, 1)),
    ((4, 0), [1, 1]),
    ((4, 0),),
    ((1, 1),),
    ((4, 0), (4, 0)),
    ((1, 1), (4, 0)),
    FULL + ((0, 1),),
    FULL + ((0, 0),),
    ((0, 1), (4, 0), (1, 1)),
    ((4, 0, 0), (1, 1)),
    ((4,), (1, 1)),
    (4, 0, 1, 1),
    (4, 1),
    ((4, 0), None),
    ((4, 0), "11"),
    ((5, 0), (1, 1)),
    ((4, 0), (5, 1)),
    ((-1, 0), (1, 1)),
    ((4, -2), (1, 1)),
    ((4, 0), (1, -1)),
    ((4, 0), (1, 2)),
    ((4, 0), (1, 10**20)),
    ((10**20, 0), (1, 1)),
    ((True, 0), (1, 1)),
    ((4, False), (1, 1)),
    ((4, 0), (True, 1)),
    ((4, 0), (1, True)),
    (("4", 0), (1, 1)),
    ((4, None), (1, 1)),
    ((4, []), ({}, 1)),
)


def small_parts(seed, number, **limits):
    """Maps by chance with some plans, but not too many."""
    found = [parts for parts in many_parts(seed, number * 4, **limits) if 0 < own_number(parts) <= 400]
    return found[:number]


class AllPlans(unittest.TestCase):
    def test_by_costs_then_as_tuples(self):
        chart = Map(3, ((0, 1, 1, 1), (0, 2, 1, 1), (1, 2, 1, 1)), (2, 1, None), (2, 0))
        expected = [
            ((0, 0), (0, 2)),
            ((0, 1),),
            ((0, 0), (1, 2)),
            ((0, 0), (2, 2)),
            ((1, 0), (0, 2)),
            ((1, 1),),
            ((1, 0), (1, 2)),
            ((1, 0), (2, 2)),
            ((2, 0), (0, 2)),
            ((2, 1),),
            ((2, 0), (1, 2)),
            ((2, 0), (2, 2)),
        ]
        self.assertEqual(all_plans(chart), expected)

    def test_against_the_tests_own(self):
        for parts in small_parts(51, 60) + [EDGE, THIN]:
            self.assertEqual(all_plans(Map(*parts)), own_plans(parts), parts)

    def test_without_ice_at_a_place(self):
        chart = Map(3, ((0, 1, 1, 1), (1, 2, 1, 1)), (None, 3, 9), (1, 0))
        self.assertEqual(all_plans(chart), [((0, 0), (0, 1)), ((0, 0), (1, 1))])

    def test_no_plans(self):
        self.assertEqual(all_plans(NOWHERE), [])
        self.assertEqual(all_plans(Map(3, ((1, 2, 1, 1),), (1, 1, 1), (6, 2))), [])

    def test_roads_that_lead_nowhere_are_in_no_plan(self):
        chart = Map(4, ((0, 1, 1, 1), (0, 2, 1, 1), (1, 3, 1, 1)), (1, None, 1, 1), (1, 0))
        self.assertEqual(all_plans(chart), [((0, 0), (0, 2)), ((1, 0), (0, 2))])

    def test_exactly_400_and_more(self):
        self.assertEqual(own_number(EDGE), 400)
        self.assertEqual(len(all_plans(Map(*EDGE))), 400)
        self.assertEqual([own_number(parts) for parts in ABOVE], [404, 405])
        for parts in (*ABOVE, CHAIN):
            with self.assertRaises(TooLarge):
                all_plans(Map(*parts))

    def test_where_the_limit_is(self):
        for parts in many_parts(52, 150) + list(BOUNDS):
            if own_number(parts) > 400:
                with self.assertRaises(TooLarge):
                    all_plans(Map(*parts))
            else:
                self.assertEqual(len(all_plans(Map(*parts))), own_number(parts))

    def test_new_lists(self):
        first = all_plans(LINE)
        first.clear()
        self.assertEqual(len(all_plans(LINE)), 25)


class Spoiling(unittest.TestCase):
    def test_the_first_delay(self):
        self.assertEqual([spoiling(LINE, FULL, late) for late in range(5)], [None, None, (0, 2), (0, 2), (0, 2)])
        self.assertEqual(spoiling(LINE, ((4, 0), (4, 1)), 4), (0, 3))
        self.assertEqual(spoiling(LINE, ((2, 0), (4, 1)), 4), (0, 3))
        self.assertEqual(spoiling(LINE, ((2, 0), (4, 1)), 2), (1, 0))
        self.assertEqual(spoiling(LINE, ((3, 0), (4, 1)), 2), (2, 0))
        self.assertEqual(spoiling(LINE, ((1, 0), (4, 1)), 2), (0, 0))
        self.assertEqual(spoiling(LINE, ((4, 0), (0, 1)), 0), None)

    def test_three_roads(self):
        chart = Map(4, ((0, 1, 1, 1), (1, 2, 1, 1), (2, 3, 1, 1)), (1, 1, 1, None), (3, 0))
        self.assertEqual(spoiling(chart, ((1, 0), (3, 1), (3, 2)), 1), (1, 0, 0))
        self.assertEqual(spoiling(chart, ((2, 0), (0, 1), (3, 2)), 1), (0, 1, 0))
        self.assertEqual(spoiling(chart, ((3, 0), (0, 1), (0, 2)), 1), (0, 0, 1))
        self.assertEqual(spoiling(chart, ((3, 0), (1, 1), (0, 2)), 2), (0, 0, 2))
        self.assertEqual(spoiling(chart, ((3, 0), (1, 1), (0, 2)), 1), None)
        self.assertEqual(spoiling(chart, ((3, 0), (0, 1), (1, 2)), 2), (0, 0, 2))
        self.assertEqual(spoiling(chart, ((2, 0), (1, 1), (3, 2)), 2), (0, 2, 0))

    def test_a_piece_for_which_there_is_no_room(self):
        # Nothing melts on the first road, so the box is still full behind it.
        chart = Map(3, ((0, 1, 1, 0), (1, 2, 3, 1)), (1, 2, None), (2, 0))
        self.assertEqual(spoiling(chart, ((2, 0), (2, 1)), 0), (0, 0))
        self.assertEqual(spoiling(chart, ((1, 0), (2, 1)), 0), (0, 0))
        wide = Map(3, chart.roads, chart.prices, (3, 0))
        self.assertEqual(spoiling(wide, ((2, 0), (2, 1)), 0), None)
        self.assertEqual(spoiling(wide, ((2, 0), (2, 1)), 1), (0, 1))
        self.assertEqual(spoiling(wide, ((3, 0), (3, 1)), 1), (0, 1))

    def test_such_pieces_are_paid(self):
        chart = Map(3, ((0, 1, 1, 0), (1, 2, 3, 1)), (1, 2, None), (2, 0))
        plans = all_plans(chart)
        costs = [pieces + 2 * others for (pieces, _), (others, _) in plans]
        self.assertEqual(costs, sorted(costs))
        self.assertEqual((plans[-1], costs[-1]), (((2, 0), (2, 1)), 6))
        # Behind a late road there is room again, behind one that is not late there is not.
        chart = Map(3, ((0, 1, 1, 2), (1, 2, 3, 1)), (1, 4, None), (5, 0))
        self.assertEqual([spoiling(chart, ((5, 0), (2, 1)), late) for late in range(3)], [None, None, (1, 1)])
        self.assertEqual(spoiling(chart, ((5, 0), (5, 1)), 2), (2, 0))
        self.assertEqual([fixed_cost(chart, late) for late in range(3)], [5, 13, None])
        self.assertEqual(fixed(chart, 1).plan, ((5, 0), (2, 1)))

    def test_against_the_tests_own(self):
        chance = random.Random(53)
        for parts in small_parts(54, 60) + [EDGE, THIN]:
            chart, plans = Map(*parts), own_plans(parts)
            for plan in chance.sample(plans, min(12, len(plans))):
                for late in range(5):
                    self.assertEqual(spoiling(chart, plan, late), own_spoiling(parts, plan, late), (parts, plan, late))

    def test_a_map_with_too_many_plans(self):
        self.assertEqual(spoiling(BIG, BIG_PLAN, 4), own_spoiling(CHAIN, BIG_PLAN, 4))
        self.assertEqual(spoiling(BIG, ((6, 0), (6, 2), (6, 4), (6, 5)), 4), None)
        self.assertEqual([spoiling(Map(*LONG), ((6, 1),), late) for late in range(3)], [None, (1,), (1,)])
        self.assertEqual(spoiling(Map(*LONG), ((6, 0), (6, 2), (6, 3), (6, 4)), 4), (0, 0, 0, 0))


class FixedPlans(unittest.TestCase):
    def check(self, parts, late):
        chart, cost, found = Map(*parts), own_fixed_cost(parts, late), fixed(Map(*parts), late)
        self.assertEqual(fixed_cost(chart, late), cost, (parts, late))
        self.assertTrue(found.shows(chart, late), (parts, late))
        doubted = [plan for plan in own_plans(parts) if cost is None or own_plan_cost(parts, plan) < cost]
        self.assertEqual(list(found.doubts), doubted, (parts, late))
        self.assertEqual(list(found), list(found.doubts.items()))
        if cost is None:
            self.assertIs(type(found), NoFixed)
            self.assertTrue(right_nofixed(parts, late, found.doubts))
        else:
            self.assertIs(type(found), Fixed)
            self.assertTrue(right_fixed(parts, late, found.plan, found.doubts))
        return cost

    def test_many_small_maps(self):
        costs = [self.check(parts, late) for parts in small_parts(55, 50) for late in range(5)]
        self.assertGreater(costs.count(None), 20)
        self.assertGreater(len(costs) - costs.count(None) - costs.count(0), 60)

    def test_many_maps_with_little_room(self):
        for parts in small_parts(56, 30, most_room=2):
            for late in (0, 1, 2, 4):
                self.check(parts, late)

    def test_at_the_limit(self):
        for parts in (EDGE, THIN):
            for late in range(5):
                self.check(parts, late)

    def test_time_at_the_limit(self):
        begin = time.process_time()
        for late in range(5):
            fixed(Map(*EDGE), late).shows(Map(*EDGE), late)
        self.assertLess(time.process_time() - begin, 10)

    def test_more_than_as_one_goes(self):
        # Which road is the better one at the place 1 depends on how late the first road was.
        roads = ((0, 1, 1, 2), (1, 2, 1, 3), (1, 2, 2, 1))
        for prices, cost in (((1, 2, None), 6), ((1, None, None), None)):
            chart = Map(3, roads, prices, (4, 1))
            self.assertEqual(sure_cost(chart, (0, 0, 0, 1)), 4)
            self.assertEqual(fixed_cost(chart, 1), cost)

    def test_never_less_than_as_one_goes(self):
        for parts in small_parts(59, 40):
            for late in range(5):
                cost, least = fixed_cost(Map(*parts), late), sure_cost(Map(*parts), (0, 0, 0, late))
                self.assertTrue(cost is None or least is not None and least <= cost, (parts, late))

    def test_doubts_cost_less_than_the_plan(self):
        # What is spoiled and costs as much as the plan is no doubt, whether it comes behind the plan or before it.
        found = fixed(TWIN, 0)
        self.assertEqual((found.plan, found.doubts), (((1, 0),), {((0, 0),): (0,), ((0, 1),): (0,)}))
        self.assertEqual(spoiling(TWIN, ((1, 1),), 0), (0,))
        chart = Map(3, ((0, 1, 1, 3), (0, 2, 1, 1), (1, 2, 1, 1)), (3, None, None), (2, 0))
        found = fixed(chart, 0)
        self.assertEqual((found.plan, list(found.doubts)), (((1, 1),), [((0, 0), (0, 2)), ((0, 1),)]))
        self.assertEqual(spoiling(chart, ((1, 0), (0, 2)), 0), (0, 0))

    def test_no_fixed_plan(self):
        found = fixed(TIGHT, 1)
        self.assertIs(type(found), NoFixed)
        self.assertEqual(list(found.doubts), all_plans(TIGHT))
        self.assertIsNone(fixed_cost(TIGHT, 1))

    def test_no_plans(self):
        for late in range(5):
            self.assertEqual(fixed(NOWHERE, late), NoFixed({}))
            self.assertIsNone(fixed_cost(NOWHERE, late))
            self.assertTrue(NoFixed({}).shows(NOWHERE, late))

    def test_nothing_to_pay(self):
        chart = Map(2, ((0, 1, 2, 1),), (3, None), (3, 2))
        self.assertEqual(fixed(chart, 0), Fixed(((0, 0),), {}))
        self.assertEqual(fixed_cost(chart, 0), 0)
        self.assertEqual(fixed_cost(chart, 1), 3)


class FixedShows(unittest.TestCase):
    PLAN = ((2, 0),)
    DOUBTS = {((0, 0),): (0,), ((0, 1),): (0,), ((1, 0),): (1,), ((1, 1),): (0,)}

    def test_right(self):
        self.assertTrue(Fixed(self.PLAN, self.DOUBTS).shows(TWIN, 1))
        self.assertTrue(Fixed(self.PLAN, dict(reversed(list(self.DOUBTS.items())))).shows(TWIN, 1))
        for plan in (((0, 0),), ((0, 1),), ((1, 1),)):
            self.assertTrue(Fixed(self.PLAN, {**self.DOUBTS, plan: (1,)}).shows(TWIN, 1))

    def test_another_plan_that_costs_as_much(self):
        chart = Map(2, ((0, 1, 1, 1), (0, 1, 1, 3), (0, 1, 2, 0)), (3, None), (4, 0))
        self.assertTrue(Fixed(((0, 2),), {}).shows(chart, 4))
        chart = Map(2, ((0, 1, 1, 1), (0, 1, 1, 2), (0, 1, 2, 1)), (3, None), (4, 1))
        doubts = {((0, 0),): (1,), ((0, 1),): (1,), ((0, 2),): (1,)}
        self.assertTrue(Fixed(((1, 0),), doubts).shows(chart, 1))
        doubts = {((0, 1),): (1,), ((0, 0),): (1,), ((0, 2),): (0,)}
        self.assertTrue(Fixed(((1, 0),), doubts).shows(chart, 1))
        self.assertFalse(Fixed(((1, 1),), doubts).shows(chart, 1))
        self.assertFalse(Fixed(((1, 2),), doubts).shows(chart, 1))
        both = Map(2, ((0, 1, 1, 1), (0, 1, 2, 1)), (3, None), (4, 2))
        for plan in (((0, 0),), ((0, 1),)):
            self.assertTrue(Fixed(plan, {}).shows(both, 0))

    def test_wrong_plan(self):
        for plan in (((0, 0),), ((0, 1),), ((1, 0),), ((1, 1),), ((3, 0),), ((4, 0),), ((2, 1),), ((4, 1),)):
            self.assertFalse(Fixed(plan, self.DOUBTS).shows(TWIN, 1), plan)

    def test_a_plan_that_holds_but_is_not_the_cheapest(self):
        doubts = {plan: (1,) for plan in all_plans(TWIN) if plan[0][0] < 3}
        self.assertFalse(Fixed(((3, 0),), doubts).shows(TWIN, 1))
        del doubts[self.PLAN]
        self.assertFalse(Fixed(((3, 0),), doubts).shows(TWIN, 1))

    def test_a_doubt_missing(self):
        for plan in self.DOUBTS:
            doubts = {each: self.DOUBTS[each] for each in self.DOUBTS if each != plan}
            self.assertFalse(Fixed(self.PLAN, doubts).shows(TWIN, 1))
        self.assertFalse(Fixed(self.PLAN, {}).shows(TWIN, 1))

    def test_a_doubt_too_many(self):
        # ((2, 1),) is spoiled, but costs as much as the plan; ((3, 1),) costs more.
        for plan in (((2, 1),), ((3, 1),), ((2, 0),), ((4, 0),)):
            self.assertFalse(Fixed(self.PLAN, {**self.DOUBTS, plan: (0,)}).shows(TWIN, 1))
            self.assertFalse(Fixed(self.PLAN, {**self.DOUBTS, plan: (1,)}).shows(TWIN, 1))

    def test_a_doubt_for_another_plan(self):
        for plan in self.DOUBTS:
            doubts = {each: self.DOUBTS[each] for each in self.DOUBTS if each != plan}
            self.assertFalse(Fixed(self.PLAN, {**doubts, ((2, 1),): (0,)}).shows(TWIN, 1))

    def test_another_delay(self):
        for delay in ((0,), (2,), (-1,), (10**20,), (), (1, 0), (1, 1), (0, 1)):
            self.assertFalse(Fixed(self.PLAN, {**self.DOUBTS, ((1, 0),): delay}).shows(TWIN, 1), delay)
        # A delay that spoils is not enough: it must not be too late, in all and for each road.
        doubts = fixed(LINE, 1).doubts
        plan = ((4, 0), (0, 1))
        self.assertEqual(fixed(LINE, 1).plan, FULL)
        for delay in ((0, 1), (1, 0)):
            self.assertTrue(Fixed(FULL, {**doubts, plan: delay}).shows(LINE, 1))
        for delay in ((1, 1), (0, 2), (2, 0), (2, -1), (-1, 2), (0, 0), (0,), (1,), (0, 1, 0), (1, 0, 0), ()):
            self.assertFalse(Fixed(FULL, {**doubts, plan: delay}).shows(LINE, 1), delay)

    def test_true_and_false_are_no_integers(self):
        chart = Map(2, ((0, 1, 1, 1),), (3, None), (4, 0))
        self.assertTrue(Fixed(((1, 0),), {((0, 0),): (0,)}).shows(chart, 0))
        for plan in (((True, 0),), ((1, False),)):
            self.assertFalse(Fixed(plan, {((0, 0),): (0,)}).shows(chart, 0))
        for plan in (((False, 0),), ((0, False),)):
            self.assertFalse(Fixed(((1, 0),), {plan: (0,)}).shows(chart, 0))
        self.assertFalse(Fixed(((1, 0),), {((0, 0),): (False,)}).shows(chart, 0))

    def test_for_another_lateness_or_map(self):
        found = Fixed(self.PLAN, self.DOUBTS)
        for late in (0, 2, 3, 4):
            self.assertFalse(found.shows(TWIN, late))
        self.assertFalse(found.shows(Map(2, TWIN.roads, TWIN.prices, (4, 1)), 1))
        # What only costs more is shown as well.
        self.assertTrue(found.shows(Map(2, TWIN.roads, (9, None), (4, 0)), 1))
        self.assertFalse(found.shows(LINE, 1))

    def test_attributes_that_change(self):
        found = Fixed(self.PLAN, self.DOUBTS)
        found.plan = ((3, 0),)
        self.assertFalse(found.shows(TWIN, 1))
        found.plan = self.PLAN
        self.assertTrue(found.shows(TWIN, 1))
        kept = found.doubts.pop(((1, 1),))
        self.assertFalse(found.shows(TWIN, 1))
        found.doubts[((1, 1),)] = kept
        self.assertTrue(found.shows(TWIN, 1))
        found.doubts = {}
        self.assertFalse(found.shows(TWIN, 1))


class NoFixedShows(unittest.TestCase):
    SHORT = Map(2, ((0, 1, 2, 1),), (1, None), (1, 0))
    DOUBTS = {((0, 0),): (0,), ((1, 0),): (0,)}

    def test_right(self):
        self.assertTrue(NoFixed(self.DOUBTS).shows(self.SHORT, 0))
        self.assertTrue(NoFixed({((1, 0),): (1,), ((0, 0),): (2,)}).shows(self.SHORT, 2))

    def test_wrong(self):
        for doubts in (
            {},
            {((0, 0),): (0,)},
            {((1, 0),): (0,)},
            {((0, 0),): (0,), ((1, 0),): (1,)},
            {((0, 0),): (0,), ((1, 0),): ()},
            {((0, 0),): (0, 0), ((1, 0),): (0,)},
            {((0, 0),): (-1,), ((1, 0),): (0,)},
        ):
            self.assertFalse(NoFixed(doubts).shows(self.SHORT, 0))

    def test_where_a_plan_holds(self):
        found = fixed(LINE, 1)
        self.assertFalse(NoFixed(found.doubts).shows(LINE, 1))
        self.assertFalse(NoFixed({}).shows(LINE, 1))
        for delay in own_delays(2, 1):
            self.assertFalse(NoFixed({plan: delay for plan in all_plans(LINE)}).shows(LINE, 1))
        wide = Map(2, self.SHORT.roads, self.SHORT.prices, (1, 1))
        self.assertFalse(NoFixed(self.DOUBTS).shows(wide, 0))
        self.assertTrue(NoFixed({((0, 0),): (0,), ((1, 0),): (1,)}).shows(wide, 1))
        self.assertTrue(NoFixed({((0, 0),): (1,), ((1, 0),): (1,)}).shows(wide, 1))
        self.assertFalse(NoFixed({((0, 0),): (1,), ((1, 0),): (0,)}).shows(wide, 1))

    def test_attributes_that_change(self):
        found = fixed(TIGHT, 1)
        plan = ((2, 0), (2, 1))
        kept = found.doubts[plan]
        found.doubts[plan] = (0, 0)
        self.assertFalse(found.shows(TIGHT, 1))
        found.doubts[plan] = kept
        self.assertTrue(found.shows(TIGHT, 1))
        del found.doubts[plan]
        self.assertFalse(found.shows(TIGHT, 1))


class Changed(unittest.TestCase):
    """What is wrong in one thing, against what the tests themselves say of it."""

    def changed(self, chance, doubts, plans, late):
        doubts = dict(doubts)
        plan = chance.choice(list(doubts) or plans)
        kind = chance.randrange(4)
        if kind == 0:
            doubts.pop(plan, None)
        elif kind == 1:
            plan = chance.choice(plans)
            doubts[plan] = tuple(chance.randrange(late + 1) for _ in plan)
        elif kind == 2:
            doubts[plan] = tuple(chance.randrange(-1, late + 2) for _ in plan)
        else:
            doubts[plan] = tuple(chance.randrange(2) for _ in range(chance.randrange(4)))
        return doubts

    def test_all(self):
        chance, answers = random.Random(57), {Fixed: [], NoFixed: []}
        for parts in small_parts(58, 40, most_places=4, most_room=3):
            chart, plans = Map(*parts), own_plans(parts)
            if len(plans) > 60:
                continue
            for late in (0, 1, 2, 4):
                found = fixed(chart, late)
                for _ in range(8):
                    doubts = self.changed(chance, found.doubts, plans, late)
                    if isinstance(found, Fixed):
                        plan = found.plan if chance.randrange(4) else chance.choice(plans)
                        right, other = right_fixed(parts, late, plan, doubts), Fixed(plan, doubts)
                    else:
                        right, other = right_nofixed(parts, late, doubts), NoFixed(doubts)
                    self.assertEqual(other.shows(chart, late), right, (parts, late, doubts))
                    answers[type(found)].append(right)
        for told in answers.values():
            self.assertGreater(told.count(True), 20)
            self.assertGreater(told.count(False), 50)


class Conventions(unittest.TestCase):
    DOUBTS = {((0, 0),): (0,), ((0, 1),): (1,)}

    def test_dicts_are_copied(self):
        doubts = dict(self.DOUBTS)
        found, other = Fixed(((1, 0),), doubts), NoFixed(doubts)
        doubts.clear()
        self.assertEqual((found.doubts, other.doubts), (self.DOUBTS, self.DOUBTS))
        found.doubts[((1, 1),)] = (0,)
        other.doubts.clear()
        self.assertEqual((doubts, found.doubts), ({}, {**self.DOUBTS, ((1, 1),): (0,)}))

    def test_iteration(self):
        for doubts in (self.DOUBTS, dict(reversed(list(self.DOUBTS.items()))), {}):
            for found in (Fixed(((1, 0),), doubts), NoFixed(doubts)):
                self.assertEqual(list(found), list(doubts.items()))
                self.assertEqual([pair for pair in found], list(doubts.items()))
                self.assertTrue(all(type(pair) is tuple for pair in found))
                found.doubts = {((1, 1),): (0,)}
                self.assertEqual(list(found), [(((1, 1),), (0,))])

    def test_equality(self):
        one = Fixed(((1, 0),), self.DOUBTS)
        self.assertTrue(one == Fixed(((1, 0),), dict(reversed(list(self.DOUBTS.items())))))
        for other in (
            Fixed(((1, 1),), self.DOUBTS),
            Fixed(((1, 0),), {}),
            Fixed(((1, 0),), {**self.DOUBTS, ((0, 0),): (1,)}),
            NoFixed(self.DOUBTS),
        ):
            self.assertFalse(one == other)
            self.assertTrue(one != other)
        one = NoFixed(self.DOUBTS)
        self.assertTrue(one == NoFixed(dict(reversed(list(self.DOUBTS.items())))))
        for other in (NoFixed({}), NoFixed({((0, 0),): (0,)}), NoFixed({**self.DOUBTS, ((0, 0),): (1,)})):
            self.assertFalse(one == other)
            self.assertTrue(one != other)
        one.doubts.clear()
        self.assertTrue(one == NoFixed({}))

    def test_answers_are_new(self):
        for chart in (LINE, TIGHT):
            first, expected = fixed(chart, 1), fixed(chart, 1)
            self.assertIsNot(first, expected)
            first.doubts.clear()
            self.assertEqual(fixed(chart, 1), expected)
            self.assertTrue(expected.shows(chart, 1))

    def test_showing_changes_nothing(self):
        for chart in (LINE, TIGHT):
            found, other = fixed(chart, 1), fixed(chart, 1)
            found.shows(chart, 1)
            found.shows(chart, 2)
            with self.assertRaises(TooLarge):
                found.shows(BIG, 1)
            self.assertEqual(found, other)
            self.assertEqual(list(found), list(other))


class Wrong(unittest.TestCase):
    BY_LATE = (fixed, fixed_cost, Fixed(FULL, {}).shows, NoFixed({}).shows)

    def test_no_map(self):
        for chart in NOT_MAPS:
            calls = [lambda: all_plans(chart)]
            calls += [lambda call=call, late=late: call(chart, late) for call in self.BY_LATE for late in (0, None)]
            for plan in (FULL, None):
                for late in (0, None):
                    calls.append(lambda plan=plan, late=late: spoiling(chart, plan, late))
            for call in calls:
                with self.assertRaises(BadMap) as caught:
                    call()
                self.assertIsNone(caught.exception.part)

    def test_no_lateness(self):
        for late in NOT_LATENESSES:
            with self.assertRaises(BadLateness):
                spoiling(LINE, FULL, late)
            for call in self.BY_LATE:
                for chart in (LINE, BIG):
                    with self.assertRaises(BadLateness):
                        call(chart, late)

    def test_no_plan(self):
        for plan in NOT_PLANS:
            for late in (0, 4, 5, None):
                with self.assertRaises(BadPlan):
                    spoiling(LINE, plan, late)

    def test_no_plan_of_this_map(self):
        for parts in (
            (3, LINE.roads, (2, None, None), (4, 0)),
            (3, LINE.roads, (None, 5, None), (4, 0)),
            (3, LINE.roads, (2, 5, None), (3, 0)),
            (4, LINE.roads, (2, 5, None, None), (4, 0)),
            (3, LINE.roads[:1], (2, 5, None), (4, 0)),
            (3, ((0, 1, 2, 1), (0, 2, 2, 1)), (2, 5, None), (4, 0)),
        ):
            with self.assertRaises(BadPlan):
                spoiling(Map(*parts), FULL, 0)

    def test_too_large(self):
        for parts in (*ABOVE, CHAIN):
            chart = Map(*parts)
            for call in self.BY_LATE:
                for late in range(5):
                    with self.assertRaises(TooLarge):
                        call(chart, late)


if __name__ == "__main__":
    unittest.main()
