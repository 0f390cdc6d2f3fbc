import random
import time
import unittest
from itertools import product

from asks import AskSearch, many_steep_parts, right_asked, right_helps, right_idle
from coolway.asking import (
    Asked,
    Helps,
    Idle,
    asked_cost,
    does_help,
    greatest_fee,
    judge_asking,
    with_asking,
)
from coolway.errors import BadFee, BadLateness, BadMap, BadState
from coolway.maps import Map
from coolway.sure import Spoils, Sure, sure, sure_cost
from search import BOUNDS, FREE, WIDE, Search, all_states, many_parts, right_spoils
from test_moves import NOT_MAPS, NOT_STATES
from test_worths import NOT_LATENESSES
from ways import start

CHART = Map(3, ((0, 1, 2, 1), (1, 2, 1, 3)), (9, 1, None), (6, 0))
PARTS = (3, CHART.roads, CHART.prices, CHART.box)
LATE = start(1)
TIGHT = Map(3, ((0, 1, 2, 1), (1, 2, 2, 1)), (2, 5, None), (2, 0))
# A map of which the states in NOT_STATES are none.
WARM = Map(3, ((0, 1, 2, 1), (1, 2, 2, 1)), (2, 5, None), (4, 1))
STUCK = Map(3, ((0, 1, 1, 1), (0, 2, 1, 2)), (1, 1, 1), (4, 0))
# For each fee a map and a lateness with which asking helps up to this fee.
HELPED = (
    ((4, ((0, 1, 1, 3), (1, 2, 1, 2), (2, 3, 1, 1), (2, 3, 3, 2)), (7, 4, 5, None), (6, 2)), 3),
    ((4, ((0, 1, 2, 2), (1, 2, 2, 0), (1, 2, 2, 1), (2, 3, 1, 3)), (8, 4, 2, None), (6, 1)), 2),
    ((4, ((0, 1, 1, 1), (0, 1, 3, 1), (1, 2, 1, 2), (1, 2, 3, 2), (2, 3, 1, 0)), (8, 5, 6, None), (6, 1)), 2),
    ((3, ((0, 1, 1, 2), (0, 1, 1, 3), (1, 2, 1, 3)), (7, 4, None), (6, 1)), 2),
    ((4, ((0, 1, 2, 2), (1, 2, 2, 2), (2, 3, 1, 3), (2, 3, 2, 3)), (6, 2, 3, None), (6, 0)), 1),
    ((3, ((0, 1, 1, 2), (1, 2, 1, 3)), (9, 6, None), (6, 0)), 1),
    ((4, ((0, 1, 2, 1), (0, 1, 3, 3), (1, 2, 1, 3), (2, 3, 1, 2), (2, 3, 2, 3)), (9, 2, 5, None), (6, 1)), 2),
    ((4, ((0, 1, 1, 1), (1, 2, 1, 0), (2, 3, 1, 2)), (9, 5, 6, None), (6, 0)), 2),
    ((4, ((0, 1, 1, 1), (1, 2, 3, 1), (2, 3, 1, 2)), (8, 3, 4, None), (6, 0)), 2),
    ((4, ((0, 1, 2, 2), (1, 2, 2, 2), (2, 3, 1, 3)), (6, 1, 6, None), (6, 0)), 1),
)
NOT_FEES = (None, True, False, "1", "", b"1", (), (1,), [], [1], {}, object(), Map, -1, 10, 10**20, -(10**20))


class Searched(unittest.TestCase):
    """Against a search of the tests' own over questions and answers."""

    def check(self, parts, state, fee, search=None, asking=None):
        chart = Map(*parts)
        cost = (search or Search(parts)).least(state)
        least = (asking or AskSearch(parts, fee)).least(state)
        note = (parts, state, fee)
        self.assertEqual(asked_cost(chart, state, fee), least, note)
        found, judged = with_asking(chart, state, fee), judge_asking(chart, state, fee)
        # Where nobody can be sure without asking, nobody can with it.
        self.assertEqual(least is None, cost is None, note)
        self.assertIs(does_help(chart, state, fee), cost is not None and least < cost, note)
        if cost is None:
            for told in (found, judged):
                self.assertIs(type(told), Spoils)
                self.assertTrue(told.shows(chart, state), note)
                self.assertTrue(right_spoils(parts, state, told.states), note)
            return cost, least
        self.assertIs(type(found), Asked)
        self.assertEqual(found.cost, least, note)
        self.assertTrue(right_asked(parts, state, fee, least, found.heights, found.levels), note)
        self.assertTrue(found.shows(chart, state, fee), note)
        self.assertIs(type(judged), Helps if least < cost else Idle)
        right = right_helps if least < cost else right_idle
        self.assertTrue(right(parts, state, fee, judged.number, judged.heights, judged.levels), note)
        self.assertTrue(judged.shows(chart, state, fee), note)
        if least < cost:
            self.assertIn(judged.number, range(least, cost))
        else:
            self.assertEqual(judged.number, cost)
        return cost, least

    def test_maps_on_which_it_may_help(self):
        found = []
        for parts in many_steep_parts(131, 50):
            search = Search(parts)
            for fee in (0, 1, 2, 5):
                asking = AskSearch(parts, fee)
                found += [self.check(parts, start(late), fee, search, asking) for late in range(5)]
        self.assertGreater(sum(cost is not None and least < cost for cost, least in found), 40)
        self.assertGreater(sum(cost is not None and least == cost for cost, least in found), 200)
        self.assertGreater(sum(cost is None for cost, least in found), 50)

    def test_many_maps_from_some_states(self):
        chance = random.Random(132)
        for parts in many_parts(133, 60) + many_steep_parts(134, 60):
            for state in chance.sample(all_states(parts), 5) + [start(chance.randrange(5))]:
                self.check(parts, state, chance.randrange(10))

    def test_each_fee(self):
        for parts in many_steep_parts(135, 10) + [PARTS]:
            search = Search(parts)
            for fee in range(10):
                asking = AskSearch(parts, fee)
                for late in (1, 2):
                    self.check(parts, start(late), fee, search, asking)

    def test_all_states_of_small_maps(self):
        for parts in many_steep_parts(136, 2) + [PARTS]:
            for fee in (0, 2):
                search, asking = Search(parts), AskSearch(parts, fee)
                for state in all_states(parts):
                    self.check(parts, state, fee, search, asking)

    def test_maps_at_the_bounds(self):
        for parts in BOUNDS:
            for fee in (0, 9):
                search, asking = Search(parts), AskSearch(parts, fee)
                for late in (0, 2, 4):
                    self.check(parts, start(late), fee, search, asking)

    def test_for_each_fee_a_map_where_it_helps_up_to_it(self):
        for greatest, (parts, late) in enumerate(HELPED):
            search = Search(parts)
            for fee in {0, greatest, min(9, greatest + 1)}:
                cost, least = self.check(parts, start(late), fee, search)
                self.assertEqual(least < cost, fee <= greatest)


class Answers(unittest.TestCase):
    def test_the_document(self):
        self.assertEqual([asked_cost(CHART, LATE, fee) for fee in range(10)], [30, 31] + [32] * 8)
        self.assertEqual(sure_cost(CHART, LATE), 32)
        self.assertEqual([does_help(CHART, LATE, fee) for fee in range(10)], [True, True] + [False] * 8)
        self.assertEqual([type(judge_asking(CHART, LATE, fee)) for fee in (0, 1, 2, 9)], [Helps, Helps, Idle, Idle])

    def test_at_the_goal(self):
        for state in ((2, 0, 0, 0), (2, 6, 0, 4)):
            for fee in range(10):
                self.assertEqual(asked_cost(CHART, state, fee), 0)
                found = with_asking(CHART, state, fee)
                self.assertEqual((type(found), found.cost), (Asked, 0))
                self.assertTrue(found.shows(CHART, state, fee))
                found = judge_asking(CHART, state, fee)
                self.assertEqual((type(found), found.number), (Idle, 0))
                self.assertTrue(found.shows(CHART, state, fee))
                self.assertFalse(does_help(CHART, state, fee))

    def test_no_money_is_enough(self):
        for chart, state in ((TIGHT, LATE), (STUCK, (1, 0, 0, 0)), (Map(2, ((0, 1, 4, 3),), (1, 1), (6, 0)), start(0))):
            for fee in (0, 9):
                self.assertIsNone(asked_cost(chart, state, fee))
                self.assertFalse(does_help(chart, state, fee))
                for found in (with_asking(chart, state, fee), judge_asking(chart, state, fee)):
                    self.assertIs(type(found), Spoils)
                    self.assertTrue(found.shows(chart, state))

    def test_an_answer_alone_takes_no_hours_away(self):
        # Whichever road one asks for, the other one may still be late, so two pieces are never enough.
        chart = Map(2, ((0, 1, 1, 2), (0, 1, 2, 1)), (1, None), (2, 0))
        self.assertEqual([asked_cost(chart, start(late), 0) for late in range(3)], [2, None, None])

    def test_one_road_and_several(self):
        # Roads that are worse than those of the map change nothing, but one can ask for them as well.
        for more in ((), ((0, 1, 3, 1),), ((0, 2, 4, 3),), ((1, 2, 2, 3),), ((0, 1, 2, 2), (0, 2, 4, 3), (1, 2, 2, 3))):
            parts = (3, tuple(sorted(CHART.roads + more)), CHART.prices, CHART.box)
            for fee, cost in enumerate((30, 31, 32)):
                self.assertEqual(AskSearch(parts, fee).least(LATE), cost)
                self.assertEqual(asked_cost(Map(*parts), LATE, fee), cost)
        # With another road that is as good, who asks for one of them takes it, whatever the answer is.
        parts = (3, ((0, 1, 1, 2), (0, 1, 2, 1), (1, 2, 1, 3)), CHART.prices, CHART.box)
        for fee in range(4):
            self.assertEqual(asked_cost(Map(*parts), LATE, fee), AskSearch(parts, fee).least(LATE))

    def test_the_fee_is_paid_for_each_question(self):
        # It helps to ask twice on the way, so each coin of the fee is paid twice.
        parts = (4, ((0, 1, 1, 1), (1, 2, 2, 2), (2, 3, 1, 3)), (5, 3, 2, None), (6, 0))
        self.assertEqual([asked_cost(Map(*parts), LATE, fee) for fee in range(4)], [29, 31, 33, 33])
        self.assertEqual((sure_cost(Map(*parts), LATE), greatest_fee(Map(*parts), 1)), (33, 1))

    def test_never_more_than_without(self):
        for parts in many_parts(137, 40):
            for late in range(5):
                cost, found = sure_cost(Map(*parts), start(late)), asked_cost(Map(*parts), start(late), 0)
                self.assertTrue(found is None and cost is None or found <= cost)

    def test_not_late_at_all(self):
        # Then there is nothing to ask.
        for parts in many_steep_parts(138, 30):
            self.assertFalse(does_help(Map(*parts), start(0), 0))
            self.assertIsNone(greatest_fee(Map(*parts), 0))

    def test_time_at_the_bounds(self):
        begin = time.process_time()
        for parts in BOUNDS:
            for fee in (0, 9):
                found, judged = with_asking(Map(*parts), start(4), fee), judge_asking(Map(*parts), start(4), fee)
                for told in (found, judged):
                    told.shows(Map(*parts), start(4), *([] if isinstance(told, Spoils) else [fee]))
            greatest_fee(Map(*parts), 4)
        self.assertLess(time.process_time() - begin, 30)


class GreatestFee(unittest.TestCase):
    def test_each_fee(self):
        for greatest, (parts, late) in enumerate(HELPED):
            self.assertEqual(greatest_fee(Map(*parts), late), greatest)

    def test_where_it_never_helps(self):
        for chart in (Map(*FREE), TIGHT, STUCK, Map(2, ((0, 1, 2, 1),), (3, None), (6, 0))):
            self.assertEqual([greatest_fee(chart, late) for late in range(5)], [None] * 5)

    def test_the_document(self):
        self.assertEqual([greatest_fee(CHART, late) for late in range(5)], [None, 1, None, None, None])

    def test_against_the_tests_own(self):
        found = []
        for parts in many_steep_parts(139, 40) + many_parts(140, 20) + [parts for parts, _ in HELPED]:
            search, askings = Search(parts), [AskSearch(parts, fee) for fee in range(10)]
            for late in range(5):
                cost = search.least(start(late))
                helps = [fee for fee in range(10) if cost is not None and askings[fee].least(start(late)) < cost]
                self.assertEqual(greatest_fee(Map(*parts), late), max(helps, default=None), (parts, late))
                self.assertEqual(helps, list(range(len(helps))))
                found.append(len(helps))
        self.assertGreater(sum(number > 0 for number in found), 15)


class AskedShows(unittest.TestCase):
    # The first road takes 2 hours, and then 18 and 6 are paid, or 3 hours, and then 27 and 3; and the fee.
    HEIGHTS = {LATE: 31, (1, 0, 0, 1): 6, (1, 0, 0, 0): 3, (2, 3, 0, 1): 0, (2, 0, 0, 0): 0}
    LEVELS = {LATE: 31, **{(1, ice, 0, late): 3 + 3 * late - ice for late in (0, 1) for ice in range(3 + 3 * late)}}

    def shows(self, cost=31, heights=None, levels=None, chart=CHART, state=LATE, fee=1):
        right = with_asking(CHART, LATE, 1)
        heights = right.heights if heights is None else heights
        return Asked(cost, heights, right.levels if levels is None else levels).shows(chart, state, fee)

    def test_right(self):
        self.assertTrue(self.shows())
        right = with_asking(CHART, LATE, 1)
        self.assertTrue(self.shows(heights=dict(reversed(list(right.heights.items())))))
        self.assertTrue(self.shows(levels=dict(reversed(list(right.levels.items())))))

    def test_right_ones_that_are_not_the_returned_ones(self):
        self.assertTrue(self.shows(heights=self.HEIGHTS, levels=self.LEVELS))
        self.assertTrue(self.shows(heights={**self.HEIGHTS, (2, 6, 0, 4): 99}))
        self.assertTrue(self.shows(levels={**self.LEVELS, (2, 0, 0, 0): 0, (0, 6, 0, 4): -9}))
        for cost, fee in ((30, 0), (32, 2)):
            heights, levels = {**self.HEIGHTS, LATE: cost}, {**self.LEVELS, LATE: cost}
            self.assertTrue(self.shows(cost, heights, levels, fee=fee))
            self.assertFalse(self.shows(cost, heights, levels))

    def test_heights_of_a_sure_are_heights_of_an_asked(self):
        found = sure(CHART, LATE)
        for fee in (2, 3, 9):
            self.assertTrue(Asked(32, found.heights, with_asking(CHART, LATE, fee).levels).shows(CHART, LATE, fee))
        self.assertFalse(Asked(32, found.heights, found.levels).shows(CHART, LATE, 1))
        self.assertFalse(Asked(31, found.heights, found.levels).shows(CHART, LATE, 1))

    def test_another_cost(self):
        right = with_asking(CHART, LATE, 1)
        for cost in (-1, 0, 30, 32, 10**20):
            self.assertFalse(self.shows(cost))
            self.assertFalse(self.shows(cost, heights={**right.heights, LATE: cost}))
            self.assertFalse(self.shows(cost, levels={**right.levels, LATE: cost}))
            self.assertFalse(self.shows(cost, {**right.heights, LATE: cost}, {**right.levels, LATE: cost}))

    def test_each_part_empty(self):
        self.assertFalse(self.shows(heights={}))
        self.assertFalse(self.shows(levels={}))
        self.assertFalse(self.shows(0, levels={}))
        self.assertFalse(self.shows(0, {LATE: 0}, {}))
        goal = (2, 1, 0, 3)
        self.assertTrue(Asked(0, {goal: 0}, {}).shows(CHART, goal, 5))
        self.assertFalse(Asked(0, {}, {}).shows(CHART, goal, 5))
        self.assertFalse(Asked(1, {goal: 1}, {goal: 1}).shows(CHART, goal, 5))
        self.assertFalse(Asked(0, {goal: 0}, {goal: 1}).shows(CHART, goal, 5))
        self.assertFalse(Asked(0, {goal: -1}, {}).shows(CHART, goal, 5))

    def test_each_height_and_level(self):
        for state, height in self.HEIGHTS.items():
            self.assertFalse(self.shows(heights={at: self.HEIGHTS[at] for at in self.HEIGHTS if at != state}), state)
            self.assertFalse(self.shows(heights={**self.HEIGHTS, state: height - 1}), state)
        for state, level in self.LEVELS.items():
            self.assertFalse(self.shows(levels={**self.LEVELS, state: level + 1}), state)
        self.assertFalse(self.shows(levels={**self.LEVELS, LATE: 30}))
        self.assertFalse(self.shows(levels={at: self.LEVELS[at] for at in self.LEVELS if at[0] == 1}))
        self.assertFalse(self.shows(levels={LATE: 31}))
        self.assertFalse(self.shows(levels={**self.LEVELS, (2, 0, 0, 0): 1}))
        for state, height in (((2, 5, 0, 0), -1), ((0, 0, 0, 4), 99), ((1, 0, 0, 2), 99), ((0, 5, 0, 0), 2)):
            self.assertFalse(self.shows(heights={**self.HEIGHTS, state: height}), state)

    def test_for_another_state_fee_or_map(self):
        for fee in (0, 2, 3, 9):
            self.assertFalse(self.shows(fee=fee))
        for state in (start(0), start(2), (0, 1, 0, 1), (1, 0, 0, 1)):
            self.assertFalse(self.shows(state=state))
        self.assertFalse(self.shows(chart=Map(3, CHART.roads, (9, 2, None), (6, 0))))
        self.assertFalse(self.shows(chart=Map(3, CHART.roads, (9, 1, None), (6, 1))))

    def test_attributes_that_change(self):
        found = with_asking(CHART, LATE, 1)
        for name, wrong in (("cost", 30), ("heights", {}), ("levels", {}), ("cost", 32)):
            kept = getattr(found, name)
            setattr(found, name, wrong)
            self.assertFalse(found.shows(CHART, LATE, 1))
            setattr(found, name, kept)
            self.assertTrue(found.shows(CHART, LATE, 1))


class HelpsShows(unittest.TestCase):
    def shows(self, number=31, heights=None, levels=None, chart=CHART, state=LATE, fee=1):
        heights = with_asking(CHART, LATE, 1).heights if heights is None else heights
        return Helps(number, heights, sure(CHART, LATE).levels if levels is None else levels).shows(chart, state, fee)

    def test_right(self):
        self.assertTrue(self.shows())
        right = judge_asking(CHART, LATE, 1)
        self.assertEqual(right.number, 31)
        self.assertTrue(self.shows(heights=dict(reversed(list(right.heights.items())))))
        self.assertTrue(self.shows(levels=dict(reversed(list(right.levels.items())))))

    def test_right_ones_that_are_not_the_returned_ones(self):
        self.assertTrue(self.shows(heights=AskedShows.HEIGHTS))
        heights = with_asking(CHART, LATE, 0).heights
        # Without a fee, 30 is enough; the levels tell that 31 is not enough without asking.
        for number in (30, 31):
            self.assertTrue(self.shows(number, heights, fee=0))
            self.assertTrue(self.shows(number, {**heights, LATE: number}, fee=0))
        self.assertFalse(self.shows(29, heights, fee=0))
        self.assertFalse(self.shows(32, heights, fee=0))
        self.assertTrue(self.shows(levels={**sure(CHART, LATE).levels, (1, 0, 0, 4): 0, (2, 0, 0, 0): -1}))

    def test_another_number(self):
        for number in (-1, 0, 30, 32, 33, 10**20):
            self.assertFalse(self.shows(number), number)
            self.assertFalse(self.shows(number, heights={**AskedShows.HEIGHTS, LATE: number}), number)

    def test_each_part_empty(self):
        self.assertFalse(self.shows(heights={}))
        self.assertFalse(self.shows(levels={}))
        goal = (2, 1, 0, 3)
        for number, heights, levels in ((0, {goal: 0}, {}), (-1, {goal: 0}, {}), (-1, {goal: -1}, {}), (0, {goal: 0}, {goal: 1})):
            self.assertFalse(Helps(number, heights, levels).shows(CHART, goal, 0))

    def test_levels_of_the_other_kind(self):
        # Levels of one who may ask reach only to the cost with asking; heights of one who may not begin above it.
        self.assertFalse(self.shows(levels=with_asking(CHART, LATE, 1).levels))
        self.assertFalse(self.shows(heights=sure(CHART, LATE).heights))
        self.assertFalse(self.shows(heights={**sure(CHART, LATE).heights, LATE: 31}, fee=2))

    def test_for_another_state_fee_or_map(self):
        # What is enough with a fee is enough with a lesser one, too.
        self.assertEqual([fee for fee in range(10) if self.shows(fee=fee)], [0, 1])
        for state in (start(0), start(2), (0, 1, 0, 1), (1, 0, 0, 1)):
            self.assertFalse(self.shows(state=state))
        self.assertFalse(self.shows(chart=Map(3, CHART.roads, (9, 2, None), (6, 0))))
        self.assertFalse(self.shows(chart=Map(3, CHART.roads, (8, 1, None), (6, 0))))

    def test_attributes_that_change(self):
        found = judge_asking(CHART, LATE, 1)
        for name, wrong in (("number", 30), ("heights", {}), ("levels", {}), ("number", 32)):
            kept = getattr(found, name)
            setattr(found, name, wrong)
            self.assertFalse(found.shows(CHART, LATE, 1))
            setattr(found, name, kept)
            self.assertTrue(found.shows(CHART, LATE, 1))


class IdleShows(unittest.TestCase):
    def shows(self, number=32, heights=None, levels=None, chart=CHART, state=LATE, fee=2):
        right = with_asking(CHART, LATE, fee if fee > 1 else 2)
        heights = sure(CHART, LATE).heights if heights is None else heights
        return Idle(number, heights, right.levels if levels is None else levels).shows(chart, state, fee)

    def test_right(self):
        for fee in range(2, 10):
            self.assertTrue(self.shows(fee=fee))
            self.assertTrue(self.shows(levels=with_asking(CHART, LATE, 2).levels, fee=fee))
        self.assertTrue(self.shows(heights=dict(reversed(list(sure(CHART, LATE).heights.items())))))

    def test_where_it_helps(self):
        for fee in (0, 1):
            for number in range(29, 34):
                for levels in (with_asking(CHART, LATE, fee).levels, sure(CHART, LATE).levels, {LATE: number}):
                    self.assertFalse(self.shows(number, levels=levels, fee=fee))
                    self.assertFalse(self.shows(number, with_asking(CHART, LATE, fee).heights, levels, fee=fee))

    def test_another_number(self):
        heights, levels = sure(CHART, LATE).heights, with_asking(CHART, LATE, 2).levels
        for number in (-1, 0, 31, 33, 10**20):
            self.assertFalse(self.shows(number), number)
            self.assertFalse(self.shows(number, {**heights, LATE: number}, {**levels, LATE: number}), number)

    def test_heights_of_the_other_kind(self):
        # With no fee, 30 is enough for one who asks, but the heights must do without asking.
        self.assertFalse(self.shows(32, with_asking(CHART, LATE, 0).heights, with_asking(CHART, LATE, 2).levels))
        self.assertFalse(self.shows(32, {**with_asking(CHART, LATE, 0).heights, LATE: 31}, with_asking(CHART, LATE, 2).levels))

    def test_each_part_empty(self):
        self.assertFalse(self.shows(heights={}))
        self.assertFalse(self.shows(levels={}))
        goal = (2, 1, 0, 3)
        self.assertTrue(Idle(0, {goal: 0}, {}).shows(CHART, goal, 0))
        for number, heights, levels in ((0, {}, {}), (-1, {goal: 0}, {}), (1, {goal: 1}, {}), (0, {goal: 0}, {goal: 1})):
            self.assertFalse(Idle(number, heights, levels).shows(CHART, goal, 0))
        # A number that is greater than any height is shown by no levels.
        self.assertFalse(Idle(1, {goal: 0}, {goal: 1}).shows(CHART, goal, 0))

    def test_for_another_state_fee_or_map(self):
        for state in (start(0), start(2), (0, 1, 0, 1), (1, 0, 0, 1)):
            self.assertFalse(self.shows(state=state))
        self.assertFalse(self.shows(chart=Map(3, CHART.roads, (9, 2, None), (6, 0))))
        self.assertFalse(self.shows(chart=Map(3, CHART.roads, (8, 1, None), (6, 0))))

    def test_attributes_that_change(self):
        found = judge_asking(CHART, LATE, 2)
        for name, wrong in (("number", 31), ("heights", {}), ("levels", {}), ("number", 33)):
            kept = getattr(found, name)
            setattr(found, name, wrong)
            self.assertFalse(found.shows(CHART, LATE, 2))
            setattr(found, name, kept)
            self.assertTrue(found.shows(CHART, LATE, 2))


class Changed(unittest.TestCase):
    """What is wrong in one thing, against what the tests themselves say of it."""

    RIGHT = {Asked: right_asked, Helps: right_helps, Idle: right_idle}

    def changed(self, chance, worths, states, state):
        worths, at = dict(worths), chance.choice(states)
        kind = chance.randrange(4)
        if kind == 0:
            worths.pop(chance.choice(list(worths) or [at]), None)
        elif kind == 1:
            at = chance.choice(list(worths) or [at])
            worths[at] = worths.get(at, 0) + chance.choice((-1, 1))
        elif kind == 2:
            worths[at] = worths.get(at, 0) + chance.choice((-2, -1, 1, 2, 9))
        else:
            worths[state] = worths.get(state, 0) + chance.choice((-1, 1))
        return worths

    def test_all(self):
        chance, answers = random.Random(142), {Asked: [], Helps: [], Idle: []}
        for parts in many_steep_parts(143, 250):
            chart, states, fee = Map(*parts), all_states(parts), chance.choice((0, 0, 1, 3))
            state = start(chance.choice((1, 1, 2)))
            for found in (with_asking(chart, state, fee), judge_asking(chart, state, fee)):
                if isinstance(found, Spoils):
                    continue
                kind = type(found)
                for _ in range(12):
                    number = found.cost if kind is Asked else found.number
                    heights, levels, part = found.heights, found.levels, chance.randrange(5)
                    if part == 0:
                        number += chance.choice((-1, 1))
                    if part in (1, 2):
                        heights = self.changed(chance, heights, states, state)
                    if part in (3, 4):
                        levels = self.changed(chance, levels, states, state)
                    right = self.RIGHT[kind](parts, state, fee, number, heights, levels)
                    self.assertEqual(kind(number, heights, levels).shows(chart, state, fee), right, (parts, state, fee))
                    answers[kind].append(right)
        for told in answers.values():
            self.assertGreater(told.count(True), 40)
            self.assertGreater(told.count(False), 100)

    def test_heights_and_levels_of_all_states(self):
        # At the goal, an Asked needs nothing but that its heights and its levels hold.
        chance, told = random.Random(144), ([], [])
        for parts in many_steep_parts(145, 30):
            chart, goal, fee = Map(*parts), (parts[0] - 1, 0, 0, 0), chance.choice((0, 1, 2))
            states = [state for state in all_states(parts) if state[3] < 3]
            costs = {state: asked_cost(chart, state, fee) for state in states}
            for _ in range(20):
                heights = {state: costs[state] for state in states if costs[state] is not None}
                levels = {state: 999 if costs[state] is None else costs[state] for state in states}
                for worths in (heights, levels):
                    for at in chance.sample(states, 2):
                        worths[at] = max(0, worths.get(at, 0) + chance.choice((-1, 0, 0, 1)))
                heights[goal], levels[goal] = 0, 0
                right = right_asked(parts, goal, fee, 0, heights, {})
                self.assertEqual(Asked(0, heights, {}).shows(chart, goal, fee), right)
                told[0].append(right)
                right = right_asked(parts, goal, fee, 0, {goal: 0}, levels)
                self.assertEqual(Asked(0, {goal: 0}, levels).shows(chart, goal, fee), right)
                self.assertEqual(Idle(0, {goal: 0}, levels).shows(chart, goal, fee), right)
                told[1].append(right)
        for answers in told:
            self.assertGreater(answers.count(True), 50)
            self.assertGreater(answers.count(False), 50)


class Conventions(unittest.TestCase):
    def test_dicts_are_copied(self):
        for kind in (Asked, Helps, Idle):
            same = {LATE: 3}
            found = kind(3, same, same)
            same.clear()
            self.assertEqual((found.heights, found.levels), ({LATE: 3}, {LATE: 3}))
            found.heights[start(0)] = 1
            self.assertEqual((same, found.levels), ({}, {LATE: 3}))

    def test_equality(self):
        heights, levels = {LATE: 3, start(0): 1}, {LATE: 2, start(2): 5}
        for kind, name in ((Asked, "cost"), (Helps, "number"), (Idle, "number")):
            one = kind(3, heights, levels)
            self.assertTrue(one == kind(3, dict(reversed(list(heights.items()))), levels))
            self.assertFalse(one != kind(3, heights, dict(reversed(list(levels.items())))))
            for other in (
                kind(2, heights, levels),
                kind(3, {LATE: 3}, levels),
                kind(3, {**heights, LATE: 2}, levels),
                kind(3, heights, {}),
                kind(3, heights, {**levels, LATE: 3}),
                Sure(3, heights, levels),
            ):
                self.assertFalse(one == other)
                self.assertTrue(one != other)
            self.assertEqual(kind(**{name: 3}, heights=heights, levels=levels), one)
        self.assertFalse(Asked(3, heights, levels) == Helps(3, heights, levels))
        self.assertFalse(Idle(3, heights, levels) == Helps(3, heights, levels))
        self.assertFalse(Idle(3, heights, levels) == Asked(3, heights, levels))

    def test_answers_are_new(self):
        for call, fee, chart in product((with_asking, judge_asking), (1, 2), (CHART, TIGHT)):
            first, expected = call(chart, LATE, fee), call(chart, LATE, fee)
            self.assertIsNot(first, expected)
            self.assertEqual(first, expected)
            if isinstance(first, Spoils):
                first.states.clear()
            else:
                first.heights.clear()
                first.levels.clear()
            self.assertEqual(call(chart, LATE, fee), expected)

    def test_showing_changes_nothing(self):
        for call, fee in product((with_asking, judge_asking), (1, 2)):
            found = call(CHART, LATE, fee)
            for other, state in product(range(10), (LATE, start(0), (2, 0, 0, 0))):
                found.shows(CHART, state, other)
                found.shows(WARM, start(0), other)
            self.assertEqual(found, call(CHART, LATE, fee))

    def test_keywords(self):
        told = {"chart": CHART, "state": LATE, "fee": 1}
        for call in (with_asking, judge_asking):
            self.assertEqual(call(**told), call(CHART, LATE, 1))
            self.assertTrue(call(**told).shows(**told))
        self.assertEqual((asked_cost(**told), does_help(**told), greatest_fee(chart=CHART, late=1)), (31, True, 1))


class Wrong(unittest.TestCase):
    CALLS = (
        with_asking,
        asked_cost,
        judge_asking,
        does_help,
        Asked(31, {}, {}).shows,
        Helps(31, {}, {}).shows,
        Idle(32, {}, {}).shows,
    )

    def test_no_map(self):
        for call, chart, state, fee in product(self.CALLS, NOT_MAPS, (LATE, None), (0, 10)):
            with self.assertRaises(BadMap) as caught:
                call(chart, state, fee)
            self.assertIsNone(caught.exception.part)
        for chart, late in product(NOT_MAPS, (0, 5, None)):
            with self.assertRaises(BadMap):
                greatest_fee(chart, late)

    def test_no_state(self):
        for call, state, fee in product(self.CALLS, NOT_STATES, (0, 10)):
            with self.assertRaises(BadState):
                call(WARM, state, fee)

    def test_no_fee(self):
        for call, fee, state in product(self.CALLS, NOT_FEES, (LATE, (2, 0, 0, 0))):
            for chart in (CHART, TIGHT, Map(*WIDE)):
                with self.assertRaises(BadFee):
                    call(chart, state, fee)

    def test_no_lateness(self):
        for late in NOT_LATENESSES:
            with self.assertRaises(BadLateness):
                greatest_fee(CHART, late)


if __name__ == "__main__":
    unittest.main()
