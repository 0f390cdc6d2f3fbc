import unittest

from coolway.errors import BadMap, BadMove, BadState
from coolway.maps import Map, moves, results
from search import BOUNDS, all_states, many_parts, own_moves, own_results

LINE = Map(3, ((0, 1, 2, 1), (1, 2, 2, 1)), (2, 5, None), (4, 1))
FORK = Map(4, ((0, 1, 1, 1), (0, 2, 1, 0), (0, 3, 4, 3), (1, 3, 1, 1)), (None, 3, 3, 1), (2, 0))
NOT_MAPS = (None, True, 0, "map", (), [], {}, Map, (3, ((0, 1, 2, 1),), (2, 5, None), (4, 0)), object())
NOT_STATES = (
    None,
    True,
    0,
    "0000",
    b"0000",
    (),
    [],
    {},
    object(),
    [0, 0, 0, 0],
    (0, 0, 0),
    (0, 0, 0, 0, 0),
    ((0, 0, 0, 0),),
    (False, 0, 0, 0),
    (0, False, 0, 0),
    (0, 0, False, 0),
    (0, 0, 0, False),
    (0, 0, 0, True),
    (True, 0, 0, 0),
    ("0", 0, 0, 0),
    (0, None, 0, 0),
    (0, 0, [], 0),
    (0, 0, 0, {}),
    (-1, 0, 0, 0),
    (3, 0, 0, 0),
    (0, -1, 0, 0),
    (0, 5, 0, 0),
    (0, 0, -1, 0),
    (0, 0, 2, 0),
    (0, 0, 0, -1),
    (0, 0, 0, 5),
    (10**20, 0, 0, 0),
)
NOT_MOVES = (
    None,
    True,
    0,
    "00",
    b"00",
    (),
    [],
    {},
    object(),
    [0, 0],
    (0,),
    (0, 0, 0),
    ((0, 0),),
    (False, 0),
    (0, False),
    (True, 0),
    ("0", 0),
    (0, None),
    ([], 0),
    (0, {}),
    (-1, 0),
    (0, -1),
    (0, 1),
    (0, 2),
    (4, 0),
    (10**20, 0),
)


class Moves(unittest.TestCase):
    def test_in_order(self):
        chart = Map(3, ((0, 1, 1, 1), (0, 2, 1, 1), (1, 2, 1, 1)), (1, None, None), (2, 0))
        found = moves(chart, (0, 0, 0, 0))
        self.assertEqual(found, [(0, 0), (0, 1), (1, 0), (1, 1), (2, 0), (2, 1)])
        self.assertTrue(all(isinstance(move, tuple) for move in found))

    def test_with_ice_in_the_box(self):
        self.assertEqual(moves(LINE, (0, 3, 0, 0)), [(0, 0), (1, 0)])
        self.assertEqual(moves(LINE, (0, 4, 0, 0)), [(0, 0)])
        self.assertEqual(moves(LINE, (1, 2, 1, 4)), [(0, 1), (1, 1), (2, 1)])

    def test_without_ice_at_the_place(self):
        self.assertEqual(moves(FORK, (0, 0, 0, 0)), [(0, 0), (0, 1), (0, 2)])
        self.assertEqual(moves(FORK, (0, 2, 0, 3)), [(0, 0), (0, 1), (0, 2)])

    def test_at_the_goal(self):
        for state in ((2, 0, 0, 0), (2, 4, 1, 4)):
            self.assertEqual(moves(LINE, state), [])
        self.assertEqual(moves(FORK, (3, 0, 0, 0)), [])

    def test_where_no_road_leads_from(self):
        self.assertEqual(moves(FORK, (2, 0, 0, 0)), [])
        self.assertEqual(moves(FORK, (2, 2, 0, 4)), [])

    def test_against_the_tests_own(self):
        for parts in many_parts(11, 30) + list(BOUNDS):
            chart = Map(*parts)
            for state in all_states(parts):
                self.assertEqual(moves(chart, state), own_moves(parts, state))

    def test_new_lists(self):
        first = moves(LINE, (0, 3, 0, 0))
        first.append("more")
        self.assertEqual(moves(LINE, (0, 3, 0, 0)), [(0, 0), (1, 0)])


class Results(unittest.TestCase):
    def test_each_lateness(self):
        chart = Map(2, ((0, 1, 1, 1),), (1, None), (6, 0))
        for late in range(5):
            found = results(chart, (0, 0, 0, late), (6, 0))
            self.assertEqual(found, [(1, 5 - more, 0, late - more) for more in range(late + 1)])

    def test_spoiled_from_some_hour_on(self):
        chart = Map(2, ((0, 1, 1, 1),), (1, None), (6, 0))
        self.assertEqual(results(chart, (0, 0, 0, 4), (3, 0)), [(1, 2, 0, 4), (1, 1, 0, 3), (1, 0, 0, 2), None, None])
        self.assertEqual(results(chart, (0, 0, 0, 2), (0, 0)), [None, None, None])

    def test_melt_0_never_warms(self):
        chart = Map(2, ((0, 1, 4, 0),), (None, None), (3, 2))
        for ice in range(4):
            for warm in range(3):
                found = results(chart, (0, ice, warm, 4), (0, 0))
                self.assertEqual(found, [(1, ice, warm, 4 - more) for more in range(5)])

    def test_ice_that_is_less_than_an_hour_melts_is_lost(self):
        chart = Map(2, ((0, 1, 2, 3),), (1, None), (6, 2))
        self.assertEqual(results(chart, (0, 0, 0, 0), (5, 0)), [(1, 0, 1, 0)])
        self.assertEqual(results(chart, (0, 0, 0, 0), (2, 0)), [(1, 0, 2, 0)])
        self.assertEqual(results(chart, (0, 0, 0, 0), (6, 0)), [(1, 0, 0, 0)])
        self.assertEqual(results(chart, (0, 4, 0, 1), (2, 0)), [(1, 0, 0, 1), (1, 0, 1, 0)])

    def test_warm_hours_up_to_what_the_goods_bear(self):
        for bear in range(3):
            chart = Map(2, ((0, 1, 1, 1),), (1, None), (6, bear))
            for warm in range(bear + 1):
                found = results(chart, (0, 0, warm, 4), (0, 0))
                for more in range(5):
                    hot = warm + 1 + more
                    self.assertEqual(found[more], (1, 0, hot, 4 - more) if hot <= bear else None)

    def test_warm_hours_stay(self):
        chart = Map(2, ((0, 1, 1, 1),), (1, None), (6, 2))
        self.assertEqual(results(chart, (0, 1, 2, 1), (1, 0)), [(1, 1, 2, 1), (1, 0, 2, 0)])

    def test_against_the_tests_own(self):
        for parts in many_parts(12, 12) + list(BOUNDS):
            chart = Map(*parts)
            for state in all_states(parts):
                for move in own_moves(parts, state):
                    self.assertEqual(results(chart, state, move), own_results(parts, state, move))

    def test_new_lists(self):
        first = results(LINE, (0, 4, 0, 1), (0, 0))
        expected = list(first)
        first.clear()
        self.assertEqual(results(LINE, (0, 4, 0, 1), (0, 0)), expected)


class Wrong(unittest.TestCase):
    def test_no_map(self):
        for chart in NOT_MAPS:
            for call in (lambda: moves(chart, (0, 0, 0, 0)), lambda: results(chart, (0, 0, 0, 0), (0, 0))):
                with self.assertRaises(BadMap) as caught:
                    call()
                self.assertIsNone(caught.exception.part)

    def test_no_state(self):
        for state in NOT_STATES:
            with self.assertRaises(BadState):
                moves(LINE, state)
            with self.assertRaises(BadState):
                results(LINE, state, (0, 0))

    def test_no_state_of_this_map(self):
        state = (2, 4, 1, 0)
        self.assertEqual(moves(LINE, state), [])
        for chart in (Map(2, ((0, 1, 1, 1),), (1, 1), (4, 1)), Map(3, ((0, 1, 1, 1),), (1, 1, 1), (3, 1))):
            with self.assertRaises(BadState):
                moves(chart, state)
        with self.assertRaises(BadState):
            moves(Map(3, ((0, 1, 1, 1),), (1, 1, 1), (4, 0)), state)

    def test_no_move(self):
        for move in NOT_MOVES:
            with self.assertRaises(BadMove):
                results(LINE, (0, 1, 0, 0), move)

    def test_moves_that_are_not_possible_here(self):
        for state, move in (((0, 1, 0, 0), (4, 0)), ((1, 0, 0, 0), (0, 0)), ((2, 0, 0, 0), (0, 1)), ((0, 4, 0, 0), (1, 0))):
            with self.assertRaises(BadMove):
                results(LINE, state, move)
        for state, move in (((0, 0, 0, 0), (1, 0)), ((2, 0, 0, 0), (0, 3)), ((3, 0, 0, 0), (0, 3))):
            with self.assertRaises(BadMove):
                results(FORK, state, move)

    def test_the_order_of_the_errors(self):
        with self.assertRaises(BadMap):
            moves(None, None)
        with self.assertRaises(BadMap):
            results(None, None, None)
        with self.assertRaises(BadMap):
            results(None, (0, 0, 0, 0), None)
        with self.assertRaises(BadState):
            results(LINE, None, None)


if __name__ == "__main__":
    unittest.main()
