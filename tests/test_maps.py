import unittest

from coolway.errors import BadMap, CoolError
from coolway.maps import Map

ROADS = ((0, 1, 2, 1), (1, 2, 2, 1))
PRICES = (2, 5, None)
BOX = (4, 0)
# Wrong for every part: things of other kinds than any part has.
STRANGE = (None, True, False, "3", "", b"abc", [], {}, set(), (), object(), Map, len)


def seven(first=(0, 1, 1, 0)):
    return (first, (0, 1, 1, 1), (0, 1, 1, 2), (0, 1, 1, 3), (0, 1, 2, 0), (0, 1, 2, 1), (0, 1, 2, 2))


class Good(unittest.TestCase):
    def test_properties(self):
        chart = Map(3, ROADS, PRICES, BOX)
        self.assertEqual((chart.places, chart.roads, chart.prices, chart.box), (3, ROADS, PRICES, BOX))
        self.assertIs(type(chart.roads), tuple)
        self.assertIs(type(chart.prices), tuple)
        self.assertEqual(len(chart), 2)

    def test_keywords(self):
        self.assertEqual(Map(places=3, roads=ROADS, prices=PRICES, box=BOX), Map(3, ROADS, PRICES, BOX))

    def test_places_at_the_bounds(self):
        for places in range(2, 6):
            chart = Map(places, ((0, places - 1, 1, 0),), (None,) * places, BOX)
            self.assertEqual((chart.places, len(chart)), (places, 1))

    def test_roads_at_the_bounds(self):
        self.assertEqual(len(Map(2, ((0, 1, 1, 0),), (1, 9), BOX)), 1)
        self.assertEqual(len(Map(2, seven(), (1, 9), BOX)), 7)

    def test_numbers_at_the_bounds(self):
        for hours in range(1, 5):
            for melt in range(4):
                road = (0, 1, hours, melt)
                self.assertEqual(Map(2, (road,), (1, 1), BOX).roads, (road,))
        for price in list(range(1, 10)) + [None]:
            self.assertEqual(Map(2, ((0, 1, 1, 1),), (price, price), BOX).prices, (price, price))
        for room in range(1, 7):
            for bear in range(3):
                self.assertEqual(Map(2, ((0, 1, 1, 1),), (1, 1), (room, bear)).box, (room, bear))

    def test_a_goal_that_cannot_be_reached(self):
        self.assertEqual(len(Map(3, ((0, 1, 1, 1),), PRICES, BOX)), 1)
        self.assertEqual(len(Map(3, ((1, 2, 1, 1),), PRICES, BOX)), 1)

    def test_roads_beside_each_other(self):
        roads = ((0, 1, 1, 1), (0, 1, 1, 2), (0, 2, 1, 1), (1, 2, 1, 1))
        self.assertEqual(Map(3, roads, PRICES, BOX).roads, roads)

    def test_maps_never_change(self):
        chart = Map(3, ROADS, PRICES, BOX)
        for name in ("places", "roads", "prices", "box"):
            with self.assertRaises(AttributeError):
                setattr(chart, name, getattr(chart, name))


class Equality(unittest.TestCase):
    def test_equal(self):
        one, other = Map(3, ROADS, PRICES, BOX), Map(3, tuple(list(ROADS)), tuple(list(PRICES)), (4, 0))
        self.assertTrue(one == other)
        self.assertFalse(one != other)

    def test_each_part_counts(self):
        chart = Map(3, ((0, 1, 2, 1),), (2, 5, None), BOX)
        others = [
            Map(3, ((0, 1, 2, 2),), (2, 5, None), BOX),
            Map(3, ((0, 1, 2, 1), (1, 2, 1, 1)), (2, 5, None), BOX),
            Map(3, ((0, 1, 2, 1),), (2, 5, 5), BOX),
            Map(3, ((0, 1, 2, 1),), (2, 5, None), (4, 1)),
            Map(3, ((0, 1, 2, 1),), (2, 5, None), (3, 0)),
            Map(4, ((0, 1, 2, 1),), (2, 5, None, None), BOX),
        ]
        for other in others:
            self.assertFalse(chart == other)
            self.assertTrue(chart != other)


class Wrong(unittest.TestCase):
    def refuse(self, part, places=3, roads=ROADS, prices=PRICES, box=BOX):
        with self.assertRaises(BadMap) as caught:
            Map(places, roads, prices, box)
        self.assertEqual(caught.exception.part, part, (places, roads, prices, box))
        self.assertIsInstance(caught.exception, CoolError)

    def test_places(self):
        for places in STRANGE + (-1, 0, 1, 6, 10**30, -(10**30), (3,), [3]):
            self.refuse("PLACES", places=places)
        self.refuse("PLACES", places=1, roads=((0, 1, 1, 1),), prices=(1,))
        self.refuse("PLACES", places=6, roads=((0, 5, 1, 1),), prices=(1,) * 6)

    def test_roads_of_another_kind(self):
        for roads in STRANGE + (3, list(ROADS), [list(road) for road in ROADS], {ROADS[0]: 1}, iter(ROADS)):
            self.refuse("ROADS", roads=roads)

    def test_number_of_roads(self):
        self.refuse("ROADS", roads=())
        self.refuse("ROADS", places=2, roads=seven() + ((0, 1, 2, 3),), prices=(1, 1))

    def test_a_road_of_another_kind(self):
        for road in STRANGE + (1, [0, 1, 2, 1], (0, 1, 2), (0, 1, 2, 1, 1), "0121", {0: 0, 1: 1, 2: 2, 3: 3}):
            self.refuse("ROADS", roads=(road,))
            self.refuse("ROADS", roads=((0, 1, 1, 1), road))

    def test_a_number_of_another_kind(self):
        for at in range(4):
            for value in STRANGE + ((1,), [1], "1"):
                road = [0, 1, 2, 1]
                road[at] = value
                self.refuse("ROADS", roads=(tuple(road),))

    def test_true_and_false_in_roads(self):
        for road in ((False, 1, 1, 1), (0, True, 1, 1), (0, 1, True, 1), (0, 1, 1, True), (0, 1, 1, False)):
            self.refuse("ROADS", roads=(road,))

    def test_a_number_beyond_the_bounds(self):
        wrong = [
            (-1, 1, 1, 1),
            (0, 3, 1, 1),
            (0, -1, 1, 1),
            (2, 3, 1, 1),
            (0, 1, 0, 1),
            (0, 1, 5, 1),
            (0, 1, -1, 1),
            (0, 1, 1, -1),
            (0, 1, 1, 4),
            (0, 1, 10**20, 1),
        ]
        for road in wrong:
            self.refuse("ROADS", roads=(road,))

    def test_roads_that_lead_backwards_or_nowhere(self):
        for road in ((1, 0, 1, 1), (2, 0, 1, 1), (2, 1, 1, 1), (0, 0, 1, 1), (2, 2, 1, 1)):
            self.refuse("ROADS", roads=(road,))
            self.refuse("ROADS", roads=((0, 1, 1, 1), road))

    def test_roads_that_are_not_ascending(self):
        self.refuse("ROADS", roads=(ROADS[1], ROADS[0]))
        self.refuse("ROADS", roads=((0, 2, 1, 1), (0, 1, 1, 1)))
        self.refuse("ROADS", roads=((0, 1, 2, 1), (0, 1, 1, 1)))
        self.refuse("ROADS", roads=((0, 1, 1, 2), (0, 1, 1, 1)))
        self.refuse("ROADS", roads=((0, 1, 1, 1), (1, 2, 1, 2), (1, 2, 1, 1)))

    def test_roads_that_stand_twice(self):
        self.refuse("ROADS", roads=(ROADS[0], ROADS[0]))
        self.refuse("ROADS", roads=(ROADS[0], ROADS[0], ROADS[1]))
        self.refuse("ROADS", roads=(ROADS[0], ROADS[1], ROADS[1]))

    def test_prices(self):
        for prices in STRANGE + (3, [2, 5, None], (2, 5), (2, 5, None, None), (2,), "25-", {0: 2, 1: 5, 2: None}):
            self.refuse("PRICES", prices=prices)
        for price in (0, 10, -1, 10**20, True, False, "2", (2,), [2], {}):
            for at in range(3):
                prices = [2, 5, None]
                prices[at] = price
                self.refuse("PRICES", prices=tuple(prices))

    def test_box(self):
        for box in STRANGE + (4, [4, 0], (4,), (4, 0, 0), "40", {4: 0, 0: 4}):
            self.refuse("BOX", box=box)
        for room in (0, 7, -1, 10**20, True, None, "4", (4,), [4]):
            self.refuse("BOX", box=(room, 0))
        for bear in (-1, 3, 10**20, True, False, None, "0", (0,), []):
            self.refuse("BOX", box=(4, bear))

    def test_the_first_wrong_part(self):
        wrong = {"places": 6, "roads": (), "prices": (), "box": (7, 0)}
        order = ["places", "roads", "prices", "box"]
        for first in range(4):
            self.refuse(order[first].upper(), **{name: wrong[name] for name in order[first:]})
            for second in range(first + 1, 4):
                names = (order[first], order[second])
                self.refuse(order[first].upper(), **{name: wrong[name] for name in names})

    def test_places_of_roads_are_those_of_the_map(self):
        self.refuse("ROADS", places=2, roads=((0, 2, 1, 1),), prices=(1, 1))
        self.refuse("PRICES", places=4)


if __name__ == "__main__":
    unittest.main()
