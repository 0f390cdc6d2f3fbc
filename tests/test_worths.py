import unittest

from coolway.errors import BadLateness, BadMap
from coolway.maps import Map
from coolway.sure import Spoils, sure, sure_cost
from coolway.worths import late_pairs, late_prices, room_prices
from search import BOUNDS, FREE, LONG, many_parts
from test_moves import NOT_MAPS
from ways import own_price, start

LINE = Map(3, ((0, 1, 2, 1), (1, 2, 2, 1)), (2, 5, None), (4, 0))
NOT_LATENESSES = (None, True, False, "1", "", b"1", (), (1,), [], [1], {}, object(), Map, -1, 5, 10**20, -(10**20))


def pairs_of(prices):
    """The pairs that are just borne, worked out from the last one on."""
    found, behind = [], None
    for late in reversed(range(5)):
        if prices[late] is not None and prices[late] != behind:
            found.insert(0, (late, prices[late]))
        behind = prices[late]
    return found


class Latenesses(unittest.TestCase):
    def check(self, parts):
        chart = Map(*parts)
        prices = [own_price(parts, late) for late in range(5)]
        self.assertEqual(late_prices(chart), prices, parts)
        self.assertEqual(late_pairs(chart), pairs_of(prices), parts)
        return prices

    def test_many_maps(self):
        found = [self.check(parts) for parts in many_parts(41, 120)]
        self.assertGreater(sum(None in prices and prices[0] is not None for prices in found), 10)
        self.assertGreater(sum(None not in prices for prices in found), 5)
        self.assertGreater(sum(len(set(prices)) < 5 and None not in prices for prices in found), 1)

    def test_maps_at_the_bounds(self):
        for parts in BOUNDS:
            self.check(parts)

    def test_as_the_costs_of_sure(self):
        for parts in many_parts(42, 40):
            chart = Map(*parts)
            for late, price in enumerate(late_prices(chart)):
                found = sure(chart, start(late))
                self.assertEqual(price, None if isinstance(found, Spoils) else found.cost)

    def test_the_last_lateness_with_a_price(self):
        self.assertEqual(late_prices(LINE), [8, 13, 18, None, None])
        self.assertEqual(late_pairs(LINE), [(0, 8), (1, 13), (2, 18)])
        chart = Map(2, ((0, 1, 2, 1),), (3, None), (6, 0))
        self.assertEqual(late_pairs(chart), [(0, 6), (1, 9), (2, 12), (3, 15), (4, 18)])
        self.assertEqual(late_pairs(Map(*LONG)), [(0, 54)])

    def test_equal_prices_side_by_side(self):
        self.assertEqual(late_prices(Map(*FREE)), [0, 0, 0, 0, 0])
        self.assertEqual(late_pairs(Map(*FREE)), [(4, 0)])
        # The goods bear two warm hours, so the first two late hours cost nothing.
        chart = Map(2, ((0, 1, 1, 1),), (3, None), (2, 2))
        self.assertEqual(late_prices(chart), [0, 0, 3, 6, None])
        self.assertEqual(late_pairs(chart), [(1, 0), (2, 3), (3, 6)])
        chart = Map(2, ((0, 1, 1, 1), (0, 1, 1, 2)), (None, None), (4, 1))
        self.assertEqual(late_prices(chart), [0, None, None, None, None])
        self.assertEqual(late_pairs(chart), [(0, 0)])

    def test_no_price_at_all(self):
        for parts in (
            (3, ((0, 1, 1, 1),), (1, 1, 1), (6, 2)),
            (3, ((1, 2, 1, 1),), (1, 1, 1), (6, 2)),
            (2, ((0, 1, 4, 3),), (1, 1), (6, 0)),
            (2, ((0, 1, 1, 1),), (None, 1), (6, 0)),
        ):
            self.assertEqual(late_prices(Map(*parts)), [None] * 5)
            self.assertEqual(late_pairs(Map(*parts)), [])

    def test_kinds(self):
        self.assertIs(type(late_prices(LINE)), list)
        self.assertIs(type(late_pairs(LINE)), list)
        self.assertTrue(all(type(pair) is tuple for pair in late_pairs(LINE)))


class Rooms(unittest.TestCase):
    def test_the_line(self):
        self.assertEqual(room_prices(LINE, 0), [None, 14, 11, 8, 8, 8])
        self.assertEqual(room_prices(LINE, 2), [None, None, None, 18, 15, 12])
        self.assertEqual(room_prices(LINE, 4), [None, None, None, None, None, 22])

    def test_many_maps(self):
        for parts in many_parts(43, 60):
            chart = Map(*parts)
            for late in (0, 1, 3):
                others = [(*parts[:3], (room, parts[3][1])) for room in range(1, 7)]
                expected = [own_price(other, late) for other in others]
                self.assertEqual(room_prices(chart, late), expected, (parts, late))
                self.assertEqual([sure_cost(Map(*other), start(late)) for other in others], expected)

    def test_maps_at_the_bounds(self):
        for parts in BOUNDS:
            for late in (0, 4):
                expected = [own_price((*parts[:3], (room, parts[3][1])), late) for room in range(1, 7)]
                self.assertEqual(room_prices(Map(*parts), late), expected)

    def test_the_room_of_the_map_does_not_matter(self):
        for room in range(1, 7):
            other = Map(3, LINE.roads, LINE.prices, (room, 0))
            self.assertEqual(room_prices(other, 1), room_prices(LINE, 1))

    def test_what_the_goods_bear_stays(self):
        chart = Map(2, ((0, 1, 3, 1),), (1, None), (6, 2))
        self.assertEqual(room_prices(chart, 0), [1] * 6)
        self.assertEqual(room_prices(chart, 1), [None, 2, 2, 2, 2, 2])

    def test_no_price_at_all(self):
        self.assertEqual(room_prices(Map(3, ((0, 1, 1, 1),), (1, 1, 1), (6, 2)), 0), [None] * 6)


class Conventions(unittest.TestCase):
    def test_new_lists(self):
        for call in (late_prices, late_pairs, lambda chart: room_prices(chart, 1)):
            first = call(LINE)
            expected = list(first)
            first.clear()
            self.assertEqual(call(LINE), expected)
            self.assertIsNot(call(LINE), call(LINE))

    def test_maps_stay_as_they_are(self):
        late_prices(LINE)
        late_pairs(LINE)
        room_prices(LINE, 2)
        self.assertEqual(LINE, Map(3, ((0, 1, 2, 1), (1, 2, 2, 1)), (2, 5, None), (4, 0)))


class Wrong(unittest.TestCase):
    def test_no_map(self):
        calls = (late_prices, late_pairs, lambda chart: room_prices(chart, 0), lambda chart: room_prices(chart, 9))
        for call in calls:
            for chart in NOT_MAPS:
                with self.assertRaises(BadMap) as caught:
                    call(chart)
                self.assertIsNone(caught.exception.part)

    def test_no_lateness(self):
        for late in NOT_LATENESSES:
            with self.assertRaises(BadLateness):
                room_prices(LINE, late)


if __name__ == "__main__":
    unittest.main()
