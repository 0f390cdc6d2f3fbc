import random
import time
import unittest

from coolway.errors import BadMap, BadState
from coolway.maps import Map
from coolway.sure import Spoils, Sure, sure, sure_cost
from search import BOUNDS, CHAIN, FREE, LONG, WIDE, Search, all_states, many_parts, right_spoils, right_sure
from test_moves import NOT_MAPS, NOT_STATES

LINE = Map(3, ((0, 1, 2, 1), (1, 2, 2, 1)), (2, 5, None), (4, 0))
TIGHT = Map(3, ((0, 1, 2, 1), (1, 2, 2, 1)), (2, 5, None), (2, 0))
START, LATE = (0, 0, 0, 0), (0, 0, 0, 1)
HEIGHTS = {START: 8, (1, 2, 0, 0): 0, (2, 0, 0, 0): 0}
LEVELS = {START: 8, (1, 0, 0, 0): 10, (1, 1, 0, 0): 5}


class Costs(unittest.TestCase):
    def check(self, parts, states):
        chart, search = Map(*parts), Search(parts)
        for state in states:
            cost, found = search.least(state), sure(chart, state)
            self.assertEqual(sure_cost(chart, state), cost, (parts, state))
            self.assertTrue(found.shows(chart, state), (parts, state))
            if cost is None:
                self.assertIs(type(found), Spoils)
                self.assertTrue(right_spoils(parts, state, found.states), (parts, state))
            else:
                self.assertIs(type(found), Sure)
                self.assertEqual(found.cost, cost)
                self.assertTrue(right_sure(parts, state, cost, found.heights, found.levels), (parts, state))

    def test_many_small_maps_from_all_states(self):
        for parts in many_parts(21, 25, most_places=3, most_roads=4, most_room=3):
            self.check(parts, all_states(parts))

    def test_many_maps_from_the_beginning(self):
        for parts in many_parts(22, 120):
            self.check(parts, [(0, 0, 0, late) for late in range(5)])

    def test_many_maps_from_some_states(self):
        chance = random.Random(23)
        for parts in many_parts(24, 60):
            self.check(parts, chance.sample(all_states(parts), 8))

    def test_maps_at_the_bounds(self):
        chance = random.Random(25)
        for parts in BOUNDS:
            self.check(parts, [(0, 0, 0, late) for late in range(5)])
            self.check(parts, chance.sample(all_states(parts), 20))

    def test_both_answers_occur_at_the_bounds(self):
        for parts in (WIDE, CHAIN):
            found = {sure_cost(Map(*parts), (0, 0, 0, late)) for late in range(5)}
            self.assertGreater(len(found), 3)
        found = [sure_cost(Map(*LONG), (0, 0, 0, late)) for late in range(5)]
        self.assertEqual(found, [54, None, None, None, None])

    def test_one_road(self):
        for hours in range(1, 5):
            for melt in range(4):
                for bear in range(3):
                    chart = Map(2, ((0, 1, hours, melt),), (3, None), (6, bear))
                    for late in range(5):
                        pieces = max(0, hours + late - bear) * melt
                        self.assertEqual(sure_cost(chart, (0, 0, 0, late)), pieces * 3 if pieces <= 6 else None)

    def test_at_the_goal(self):
        for state in ((2, 0, 0, 0), (2, 4, 0, 4)):
            self.assertEqual(sure_cost(LINE, state), 0)
            found = sure(LINE, state)
            self.assertEqual((type(found), found.cost), (Sure, 0))
            self.assertTrue(found.shows(LINE, state))

    def test_where_no_road_leads_from(self):
        chart = Map(4, ((0, 1, 1, 0), (0, 2, 1, 1), (2, 3, 1, 0)), (1, 1, 1, 1), (2, 0))
        self.assertIsNone(sure_cost(chart, (1, 2, 0, 0)))
        self.assertEqual(sure(chart, (1, 2, 0, 0)), Spoils([(1, 2, 0, 0)]))
        self.assertEqual(sure_cost(chart, START), 1)

    def test_nothing_to_pay(self):
        chart = Map(*FREE)
        self.assertEqual(sure_cost(chart, (0, 0, 0, 4)), 0)
        self.assertEqual(sure(chart, (0, 0, 0, 4)).levels, {})

    def test_ice_is_bought_as_one_goes(self):
        # Whether the second piece is needed is known only behind the first road.
        chart = Map(3, ((0, 1, 1, 1), (1, 2, 1, 1)), (9, 2, None), (6, 0))
        self.assertEqual([sure_cost(chart, (0, 0, 0, late)) for late in range(4)], [11, 20, 29, 38])

    def test_which_lateness_is_the_worst(self):
        # Late at once, three pieces melt on the first road; later only one; or the other way round.
        early = Map(3, ((0, 1, 1, 3), (1, 2, 1, 1)), (1, 5, None), (6, 0))
        self.assertEqual([sure_cost(early, (0, 0, 0, late)) for late in range(3)], [4, 11, None])
        later = Map(3, ((0, 1, 1, 1), (1, 2, 1, 3)), (1, 5, None), (6, 0))
        self.assertEqual([sure_cost(later, (0, 0, 0, late)) for late in range(3)], [4, 11, None])
        middle = Map(4, ((0, 1, 1, 1), (1, 2, 1, 2), (2, 3, 1, 1)), (1, 5, 9, None), (6, 0))
        self.assertEqual([sure_cost(middle, (0, 0, 0, late)) for late in range(4)], [4, 6, 20, None])

    def test_time_at_the_bounds(self):
        begin = time.process_time()
        for parts in BOUNDS:
            sure(Map(*parts), (0, 0, 0, 4))
        self.assertLess(time.process_time() - begin, 20)


class SureShows(unittest.TestCase):
    def test_right(self):
        self.assertTrue(Sure(8, HEIGHTS, LEVELS).shows(LINE, START))

    def test_right_ones_that_are_not_returned(self):
        more = {**HEIGHTS, (2, 4, 0, 4): 99, (1, 4, 0, 0): 7, (2, 2, 0, 0): 7}
        self.assertTrue(Sure(8, more, LEVELS).shows(LINE, START))
        self.assertTrue(Sure(8, dict(reversed(list(more.items()))), LEVELS).shows(LINE, START))
        for levels in (
            {**LEVELS, (2, 0, 0, 0): 0, (1, 4, 0, 0): -5},
            {**LEVELS, (2, 0, 0, 0): -1},
            dict(reversed(list(LEVELS.items()))),
            {**LEVELS, (1, 0, 0, 4): 10**9},
        ):
            self.assertTrue(Sure(8, HEIGHTS, levels).shows(LINE, START))

    def test_wrong_cost(self):
        for cost in (-1, 0, 7, 9, 10**20):
            self.assertFalse(Sure(cost, HEIGHTS, LEVELS).shows(LINE, START))

    def test_wrong_heights(self):
        for state in HEIGHTS:
            self.assertFalse(Sure(8, {at: HEIGHTS[at] for at in HEIGHTS if at != state}, LEVELS).shows(LINE, START))
        for state, height in ((START, 7), (START, 9), ((1, 2, 0, 0), 1), ((1, 2, 0, 0), -1), ((2, 0, 0, 0), 1)):
            self.assertFalse(Sure(8, {**HEIGHTS, state: height}, LEVELS).shows(LINE, START))
        for state, height in (((1, 0, 0, 0), 9), ((2, 4, 0, 4), -1), ((1, 1, 0, 0), 4)):
            self.assertFalse(Sure(8, {**HEIGHTS, state: height}, LEVELS).shows(LINE, START))
        self.assertTrue(Sure(8, {**HEIGHTS, (1, 1, 0, 0): 5}, LEVELS).shows(LINE, START))

    def test_wrong_levels(self):
        for state in LEVELS:
            self.assertFalse(Sure(8, HEIGHTS, {at: LEVELS[at] for at in LEVELS if at != state}).shows(LINE, START))
        for state, level in ((START, 7), (START, 9), ((1, 0, 0, 0), 11), ((1, 1, 0, 0), 6), ((1, 2, 0, 0), 1)):
            self.assertFalse(Sure(8, HEIGHTS, {**LEVELS, state: level}).shows(LINE, START))
        self.assertFalse(Sure(8, HEIGHTS, {**LEVELS, (2, 0, 0, 0): 1}).shows(LINE, START))

    def test_a_cost_of_0_needs_no_level(self):
        goal = (2, 1, 0, 3)
        self.assertTrue(Sure(0, {goal: 0}, {}).shows(LINE, goal))
        self.assertTrue(Sure(0, {goal: 0}, LEVELS).shows(LINE, goal))
        self.assertTrue(Sure(0, {goal: 0}, {goal: 0}).shows(LINE, goal))
        self.assertTrue(Sure(0, {goal: 0}, {goal: -1}).shows(LINE, goal))
        self.assertFalse(Sure(0, {goal: 0}, {goal: 1}).shows(LINE, goal))
        self.assertFalse(Sure(0, {goal: 1}, {}).shows(LINE, goal))
        self.assertFalse(Sure(0, {}, {}).shows(LINE, goal))
        self.assertFalse(Sure(1, {goal: 1}, {}).shows(LINE, goal))
        self.assertFalse(Sure(0, {goal: 0}, {(1, 0, 0, 0): 11}).shows(LINE, goal))

    def test_for_another_state_or_map(self):
        found = Sure(8, HEIGHTS, LEVELS)
        self.assertFalse(found.shows(LINE, LATE))
        self.assertFalse(found.shows(TIGHT, START))
        self.assertFalse(found.shows(Map(3, LINE.roads, (3, 5, None), (4, 0)), START))

    def test_attributes_that_change(self):
        found = sure(LINE, LATE)
        found.cost = 12
        self.assertFalse(found.shows(LINE, LATE))
        found.cost = 13
        self.assertTrue(found.shows(LINE, LATE))
        kept = found.heights.pop(LATE)
        self.assertFalse(found.shows(LINE, LATE))
        found.heights[LATE] = kept
        self.assertTrue(found.shows(LINE, LATE))
        found.levels[LATE] = 12
        self.assertFalse(found.shows(LINE, LATE))
        found.cost, found.heights, found.levels = 8, HEIGHTS, LEVELS
        self.assertTrue(found.shows(LINE, START))

    def test_where_a_move_can_spoil(self):
        # The only cheaper way can be late once too often.
        chart = Map(2, ((0, 1, 1, 1),), (1, None), (3, 0))
        ends = {(1, 0, 0, 1): 0, (1, 0, 0, 0): 0, (1, 1, 0, 1): 0}
        self.assertTrue(Sure(2, {LATE: 2, **ends}, {LATE: 2}).shows(chart, LATE))
        self.assertFalse(Sure(1, {LATE: 1, **ends}, {LATE: 1}).shows(chart, LATE))
        self.assertFalse(Sure(3, {LATE: 3, **ends}, {LATE: 3}).shows(chart, LATE))


class SpoilsShows(unittest.TestCase):
    def test_right(self):
        self.assertTrue(Spoils([LATE]).shows(TIGHT, LATE))
        self.assertTrue(Spoils([LATE, LATE, (0, 1, 0, 1), LATE]).shows(TIGHT, LATE))
        self.assertTrue(Spoils([(1, 0, 0, 1), LATE]).shows(TIGHT, LATE))

    def test_wrong(self):
        self.assertFalse(Spoils([]).shows(TIGHT, LATE))
        self.assertFalse(Spoils([(0, 1, 0, 1)]).shows(TIGHT, LATE))
        self.assertFalse(Spoils([START]).shows(LINE, START))
        self.assertFalse(Spoils([LATE, START]).shows(TIGHT, LATE))
        self.assertFalse(Spoils([LATE, (2, 0, 0, 0)]).shows(TIGHT, LATE))
        self.assertFalse(Spoils([(2, 0, 0, 0)]).shows(TIGHT, (2, 0, 0, 0)))
        self.assertFalse(Spoils([LATE]).shows(LINE, LATE))

    def test_too_few(self):
        # With any purchase at 0, what comes behind is needed: two roads, room for one only.
        chart = Map(3, ((0, 1, 1, 1), (1, 2, 2, 1)), (1, 1, None), (1, 0))
        right = [START, (1, 0, 0, 0)]
        self.assertTrue(Spoils(right).shows(chart, START))
        self.assertFalse(Spoils(right[:1]).shows(chart, START))
        self.assertFalse(Spoils(right[1:]).shows(chart, START))
        self.assertTrue(Spoils(right[1:]).shows(chart, right[1]))

    def test_attributes_that_change(self):
        found = sure(TIGHT, LATE)
        self.assertTrue(found.shows(TIGHT, LATE))
        found.states.append((2, 0, 0, 0))
        self.assertFalse(found.shows(TIGHT, LATE))
        found.states.pop()
        self.assertTrue(found.shows(TIGHT, LATE))
        found.states = []
        self.assertFalse(found.shows(TIGHT, LATE))

    def test_iteration(self):
        found = Spoils([LATE, START, LATE])
        self.assertEqual(list(found), [LATE, START, LATE])
        self.assertEqual(list(found), [LATE, START, LATE])
        found.states = [START]
        self.assertEqual([state for state in found], [START])
        self.assertEqual(list(sure(TIGHT, LATE)), sure(TIGHT, LATE).states)


class Changed(unittest.TestCase):
    """What is wrong in one thing, against what the tests themselves say of it."""

    def changed(self, chance, found, states):
        cost, heights, levels = found.cost, dict(found.heights), dict(found.levels)
        kind = chance.randrange(5)
        if kind == 0:
            cost += chance.choice((-1, 1))
        table = heights if kind < 3 else levels
        at = chance.choice(list(table) or states)
        if kind in (1, 3):
            table.pop(at, None)
        if kind in (2, 4):
            at = chance.choice((at, chance.choice(states)))
            table[at] = table.get(at, 0) + chance.choice((-3, -1, 1, 2))
        return Sure(cost, heights, levels)

    def test_sure(self):
        chance, answers = random.Random(31), []
        for parts in many_parts(32, 40, most_places=4):
            chart, states = Map(*parts), all_states(parts)
            for state in chance.sample(states, 4):
                found = sure(chart, state)
                if isinstance(found, Spoils):
                    continue
                for _ in range(6):
                    other = self.changed(chance, found, states)
                    right = right_sure(parts, state, other.cost, other.heights, other.levels)
                    self.assertEqual(other.shows(chart, state), right, (parts, state))
                    answers.append(right)
        self.assertGreater(answers.count(True), 50)
        self.assertGreater(answers.count(False), 50)

    def test_spoils(self):
        chance, answers = random.Random(33), []
        for parts in many_parts(34, 60, most_places=4):
            chart, states = Map(*parts), all_states(parts)
            for state in chance.sample(states, 4):
                found = sure(chart, state)
                if isinstance(found, Sure):
                    self.assertFalse(Spoils([state]).shows(chart, state))
                    continue
                for _ in range(6):
                    other = list(found)
                    if chance.randrange(2):
                        other.pop(chance.randrange(len(other)))
                    else:
                        other.insert(chance.randrange(len(other) + 1), chance.choice(states))
                    right = right_spoils(parts, state, other)
                    self.assertEqual(Spoils(other).shows(chart, state), right, (parts, state))
                    answers.append(right)
        self.assertGreater(answers.count(True), 50)
        self.assertGreater(answers.count(False), 50)


class Wrong(unittest.TestCase):
    CALLS = (sure, sure_cost, Sure(8, HEIGHTS, LEVELS).shows, Spoils([LATE]).shows)

    def test_no_map(self):
        for call in self.CALLS:
            for chart in NOT_MAPS:
                for state in (START, None):
                    with self.assertRaises(BadMap) as caught:
                        call(chart, state)
                    self.assertIsNone(caught.exception.part)

    def test_no_state(self):
        for call in self.CALLS:
            for state in NOT_STATES:
                with self.assertRaises(BadState):
                    call(LINE, state)


if __name__ == "__main__":
    unittest.main()
