import unittest
from itertools import permutations

from coolway.asking import Asked, Helps, Idle
from coolway.drivers import Arrives, Fails
from coolway.errors import BadMap
from coolway.knowing import Hopeless, Known
from coolway.maps import Map, moves, results
from coolway.needs import Needs
from coolway.plans import Fixed, NoFixed
from coolway.regrets import NoRegret, Regret
from coolway.sessions import Session
from coolway.sure import Spoils, Sure, sure, sure_cost

LINE = Map(3, ((0, 1, 2, 1), (1, 2, 2, 1)), (2, 5, None), (4, 0))
TIGHT = Map(3, ((0, 1, 2, 1), (1, 2, 2, 1)), (2, 5, None), (2, 0))
START, LATE = (0, 0, 0, 0), (0, 0, 0, 1)


class Copies(unittest.TestCase):
    def test_arguments_that_change_afterwards(self):
        heights, levels, states = {START: 8}, {START: 8}, [START]
        found, spoils = Sure(8, heights, levels), Spoils(states)
        heights[START] = 9
        heights[LATE] = 1
        levels.clear()
        states.append(LATE)
        self.assertEqual((found.heights, found.levels, spoils.states), ({START: 8}, {START: 8}, [START]))

    def test_attributes_that_change_afterwards(self):
        heights, levels, states = {START: 8}, {START: 8}, [START]
        found, spoils = Sure(8, heights, levels), Spoils(states)
        found.heights.clear()
        found.levels[LATE] = 3
        spoils.states.append(LATE)
        self.assertEqual((heights, levels, states), ({START: 8}, {START: 8}, [START]))

    def test_two_from_the_same_dicts(self):
        same = {START: 8}
        found, other = Sure(8, same, same), Sure(8, same, same)
        found.heights[LATE] = 1
        self.assertEqual((found.levels, other.heights, other.levels), (same, same, same))

    def test_answers_that_change_afterwards(self):
        for chart in (LINE, TIGHT):
            for state in (START, LATE):
                first, expected = sure(chart, state), sure(chart, state)
                self.assertIsNot(first, expected)
                self.assertEqual(first, expected)
                if isinstance(first, Sure):
                    first.heights.clear()
                    first.levels.clear()
                    first.cost = 99
                else:
                    first.states.clear()
                self.assertEqual(sure(chart, state), expected)
                self.assertTrue(expected.shows(chart, state))

    def test_lists_are_new(self):
        self.assertIsNot(moves(LINE, LATE), moves(LINE, LATE))
        self.assertIsNot(results(LINE, LATE, (4, 0)), results(LINE, LATE, (4, 0)))
        self.assertEqual(moves(LINE, LATE), moves(LINE, LATE))

    def test_showing_changes_nothing(self):
        for chart, found in ((LINE, sure(LINE, LATE)), (TIGHT, sure(TIGHT, LATE))):
            before = dict(vars(found))
            before = {name: before[name].copy() if hasattr(before[name], "copy") else before[name] for name in before}
            found.shows(chart, LATE)
            found.shows(chart, START)
            self.assertEqual(vars(found), before)

    def test_maps_stay_as_they_are(self):
        chart = Map(3, LINE.roads, LINE.prices, LINE.box)
        sure(chart, LATE).shows(chart, LATE)
        sure_cost(chart, START)
        moves(chart, START)
        results(chart, START, (1, 0))
        self.assertEqual(chart, LINE)


class Equality(unittest.TestCase):
    def test_sure(self):
        one = Sure(8, {START: 8, LATE: 9}, {START: 8, LATE: 2})
        self.assertTrue(one == Sure(8, {LATE: 9, START: 8}, {LATE: 2, START: 8}))
        for other in (
            Sure(7, one.heights, one.levels),
            Sure(8, {START: 8}, one.levels),
            Sure(8, {START: 8, LATE: 8}, one.levels),
            Sure(8, one.heights, {}),
            Sure(8, one.heights, {START: 8, LATE: 3}),
        ):
            self.assertFalse(one == other)
            self.assertTrue(one != other)

    def test_sure_with_attributes_that_changed(self):
        one, other = Sure(8, {START: 8}, {}), Sure(8, {START: 8}, {})
        one.heights[LATE] = 1
        self.assertFalse(one == other)
        other.heights[LATE] = 1
        self.assertTrue(one == other)

    def test_spoils(self):
        one = Spoils([START, LATE])
        self.assertTrue(one == Spoils([START, LATE]))
        for states in ([LATE, START], [START], [START, LATE, LATE], []):
            self.assertFalse(one == Spoils(states))
            self.assertTrue(one != Spoils(states))

    def test_of_different_classes(self):
        objects = [
            LINE,
            Sure(0, {}, {}),
            Spoils([]),
            Fixed((), {}),
            NoFixed({}),
            Arrives(0, (), {}),
            Fails(()),
            Known(0, {}, ()),
            Hopeless(()),
            Session(LINE, 0),
            Session(LINE, 0).trial(),
            Needs({}, {}, {}, []),
            Regret(0, (), ()),
            NoRegret(()),
            Asked(0, {}, {}),
            Helps(0, {}, {}),
            Idle(0, {}, {}),
            BadMap(None),
        ]
        for one, other in permutations(objects, 2):
            self.assertFalse(one == other)
            self.assertTrue(one != other)


if __name__ == "__main__":
    unittest.main()
