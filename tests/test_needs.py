import random
import time
import unittest
from itertools import product

from coolway.errors import BadMap, BadPurse, BadState
from coolway.maps import Map
from coolway.needs import Needs, need_at, needs
from coolway.sure import sure_cost
from search import BOUNDS, CHAIN, FREE, LONG, WIDE, Search, all_states, many_parts, right_heights, right_levels, right_spoils
from test_moves import NOT_MAPS

LINE = Map(3, ((0, 1, 2, 1), (1, 2, 2, 1)), (2, 5, None), (4, 0))
SHORT = Map(2, ((0, 1, 2, 1),), (3, None), (3, 0))
# One road without ice at its beginning, so nothing can be bought: what is in the box must be enough.
BARE = Map(2, ((0, 1, 1, 2),), (None, None), (3, 1))
STUCK = Map(3, ((0, 1, 1, 1), (0, 2, 1, 2)), (1, 1, 1), (4, 0))
NOT_PURSES = (None, True, False, "9", "", b"9", (), (9,), [], [9], {}, object(), Map, -1, 100, 10**20, -(10**20))
NOT_TRIPLES = (
    (None, 0, 0),
    (0, None, 0),
    (0, 0, None),
    (True, 0, 0),
    (0, True, 0),
    (0, 0, True),
    (False, 0, 0),
    (0, False, 0),
    (0, 0, False),
    ("0", 0, 0),
    (0, (0,), 0),
    (0, 0, [0]),
    ({}, {}, {}),
    (-1, 0, 0),
    (3, 0, 0),
    (0, -1, 0),
    (0, 1, 0),
    (0, 0, -1),
    (0, 0, 5),
    (10**20, 0, 0),
    (0, 10**20, 0),
    (0, 0, 10**20),
)


def own_triples(parts):
    return [(place, warm, late) for place in range(parts[0]) for warm in range(parts[3][1] + 1) for late in range(5)]


def with_ice(triple, ice):
    return triple[0], ice, triple[1], triple[2]


def own_need(parts, search, purse, triple):
    for ice in range(parts[3][0] + 1):
        if search.enough(with_ice(triple, ice), purse):
            return ice
    return None


def own_needs(parts, purse):
    search = Search(parts)
    return {triple: own_need(parts, search, purse, triple) for triple in own_triples(parts)}


def right_needs(parts, purse, found, heights, levels, states):
    """As the document says it, without asking what the needs are."""
    if set(found) != set(own_triples(parts)):
        return False
    for triple, need in found.items():
        if need is not None and not heights.get(with_ice(triple, need), 1000) <= purse:
            return False
        if need is None or need > 0:
            less = with_ice(triple, parts[3][0] if need is None else need - 1)
            if less not in states and not levels.get(less, 0) > purse:
                return False
    if not right_heights(parts, heights) or not right_levels(parts, levels):
        return False
    return not states or right_spoils(parts, states[0], states)


class Answers(unittest.TestCase):
    def check(self, parts, purse):
        chart, own, found = Map(*parts), own_needs(parts, purse), needs(Map(*parts), purse)
        self.assertIs(type(found), Needs)
        self.assertEqual(found.needs, own, (parts, purse))
        self.assertEqual(list(found.needs), own_triples(parts))
        self.assertTrue(right_needs(parts, purse, found.needs, found.heights, found.levels, found.states), (parts, purse))
        self.assertTrue(found.shows(chart, purse), (parts, purse))
        for triple, need in own.items():
            self.assertEqual(need_at(chart, purse, *triple), need, (parts, purse, triple))
        return list(own.values())

    def test_many_maps(self):
        chance, found = random.Random(111), []
        for parts in many_parts(112, 60):
            for purse in (0, 99, chance.randint(1, 20), chance.randint(1, 98)):
                found += self.check(parts, purse)
        for need in (None, 0, 1, 2, 3, 4, 5, 6):
            self.assertGreater(found.count(need), 30)

    def test_each_purse(self):
        for parts in many_parts(113, 2, most_places=3, most_roads=3, most_room=4):
            for purse in range(100):
                self.check(parts, purse)

    def test_maps_at_the_bounds(self):
        for parts in BOUNDS:
            for purse in (0, 7, 99):
                self.check(parts, purse)

    def test_the_costs_of_a_sure(self):
        for parts in many_parts(114, 20):
            chart = Map(*parts)
            for purse in (0, 5, 99):
                for triple, need in needs(chart, purse).needs.items():
                    costs = [sure_cost(chart, with_ice(triple, ice)) for ice in range(parts[3][0] + 1)]
                    enough = [cost is not None and cost <= purse for cost in costs]
                    self.assertEqual(need, enough.index(True) if True in enough else None)
                    # More pieces are never worse.
                    self.assertEqual(enough, sorted(enough))

    def test_the_document(self):
        self.assertEqual([need_at(SHORT, purse, 0, 0, 1) for purse in (0, 3, 9)], [3, 2, 0])
        self.assertIsNone(need_at(SHORT, 99, 0, 0, 2))
        self.assertEqual(need_at(SHORT, 0, 1, 0, 4), 0)

    def test_what_the_purse_must_be(self):
        # Each piece costs 3: with one coin less, one piece more is needed.
        found = [need_at(SHORT, purse, 0, 0, 1) for purse in range(12)]
        self.assertEqual(found, [3, 3, 3, 2, 2, 2, 1, 1, 1, 0, 0, 0])

    def test_purses_0_and_99(self):
        self.assertEqual([need_at(LINE, 0, 0, 0, late) for late in range(5)], [4, None, None, None, None])
        self.assertEqual([need_at(LINE, 99, 0, 0, late) for late in range(5)], [0, 0, 0, None, None])
        # What costs more than any purse.
        chart = Map(5, LONG[1], (9,) * 5, (6, 2))
        self.assertEqual([need_at(chart, purse, 0, 2, 0) for purse in (0, 99)], [None, None])
        chart = Map(5, tuple((at, at + 1, 2, 3) for at in range(4)), (9,) * 5, (6, 0))
        self.assertEqual(sure_cost(chart, (0, 0, 0, 0)), 216)
        self.assertEqual([need_at(chart, 99, place, 0, 0) for place in range(5)], [None, None, 1, 0, 0])

    def test_where_nothing_can_be_bought(self):
        for purse in (0, 99):
            self.assertEqual([need_at(BARE, purse, 0, 0, late) for late in range(5)], [0, 2, None, None, None])
            self.assertEqual([need_at(BARE, purse, 0, 1, late) for late in range(5)], [2, None, None, None, None])
            self.assertEqual([need_at(BARE, purse, 1, warm, late) for warm in (0, 1) for late in range(5)], [0] * 10)

    def test_where_no_road_leads_on(self):
        for purse, late in product((0, 99), range(5)):
            self.assertIsNone(need_at(STUCK, purse, 1, 0, late))
        self.assertEqual(need_at(STUCK, 0, 0, 0, 0), 2)

    def test_nothing_is_needed(self):
        found = needs(Map(*FREE), 0)
        self.assertEqual(set(found.needs.values()), {0})
        self.assertEqual(found.shows(Map(*FREE), 0), True)

    def test_time_at_the_bounds(self):
        begin = time.process_time()
        for parts in BOUNDS:
            for purse in (0, 50, 99):
                needs(Map(*parts), purse).shows(Map(*parts), purse)
        self.assertLess(time.process_time() - begin, 20)


class Shows(unittest.TestCase):
    def shows(self, chart=BARE, purse=5, **parts):
        """Whether an answer shows what it should, with some of its parts changed."""
        found = needs(BARE, 5)
        for name, value in parts.items():
            setattr(found, name, value)
        return Needs(found.needs, found.heights, found.levels, found.states).shows(chart, purse)

    def setUp(self):
        self.right = needs(BARE, 5)

    def test_right(self):
        self.assertTrue(self.shows())
        for name in ("needs", "heights", "levels"):
            self.assertTrue(self.shows(**{name: dict(reversed(list(getattr(self.right, name).items())))}))

    def test_right_ones_that_are_not_the_returned_ones(self):
        heights = {(0, 3, 0, 0): 5, (0, 3, 0, 1): 2, (0, 0, 0, 0): 0, (0, 2, 0, 1): 5, (0, 2, 1, 0): 1}
        heights.update({state: 3 for state in all_states((2, BARE.roads, BARE.prices, BARE.box)) if state[0] == 1})
        heights.update({(0, 0, 0, 0): 5, (1, 0, 1, 0): 0, (1, 0, 0, 1): 0, (1, 0, 0, 0): 0, (1, 1, 0, 0): 0, (1, 1, 0, 1): 0})
        self.assertTrue(self.shows(heights=heights))
        # Something spoils wherever a need says so: it may be told by the list alone, or by the levels alone.
        spoiled = [(0, ice, warm, late) for ice in range(4) for warm in (0, 1) for late in range(5)]
        spoiled = [state for state in spoiled if sure_cost(BARE, state) is None]
        self.assertTrue(self.shows(levels={}, states=spoiled))
        self.assertTrue(self.shows(levels={}, states=spoiled + spoiled[:3]))
        self.assertTrue(self.shows(levels={state: 6 for state in spoiled}, states=[]))
        self.assertTrue(self.shows(levels={**{state: 60 for state in spoiled}, (0, 3, 0, 0): -4, (1, 0, 0, 0): 0}, states=[]))
        self.assertFalse(self.shows(levels={state: 5 for state in spoiled}, states=[]))

    def test_each_part_empty(self):
        self.assertFalse(self.shows(needs={}))
        self.assertFalse(self.shows(heights={}))
        self.assertFalse(self.shows(levels={}, states=[]))
        self.assertFalse(Needs({}, {}, {}, []).shows(BARE, 5))
        # Where money alone is too little, no state of a list can tell.
        found = needs(SHORT, 3)
        found.levels = {}
        self.assertFalse(found.shows(SHORT, 3))
        found = needs(Map(*FREE), 0)
        found.levels, found.states = {}, []
        self.assertTrue(found.shows(Map(*FREE), 0))
        found.heights = {}
        self.assertFalse(found.shows(Map(*FREE), 0))

    def test_each_need_one_more_or_less(self):
        for chart, purse in ((BARE, 5), (SHORT, 3), (LINE, 6)):
            right = needs(chart, purse)
            for triple, need in right.needs.items():
                others = [None, -1, chart.box[0], chart.box[0] + 1, 10**20]
                others += [] if need is None else [need - 1, need + 1]
                for other in others:
                    if other != need:
                        found = Needs({**right.needs, triple: other}, right.heights, right.levels, right.states)
                        self.assertFalse(found.shows(chart, purse), (triple, need, other))

    def test_a_need_for_none(self):
        for triple, need in self.right.needs.items():
            if need is None:
                for other in range(4):
                    self.assertFalse(self.shows(needs={**self.right.needs, triple: other}))

    def test_a_triple_missing_or_too_many(self):
        for triple in self.right.needs:
            self.assertFalse(self.shows(needs={each: self.right.needs[each] for each in self.right.needs if each != triple}))
        for triple in ((2, 0, 0), (-1, 0, 0), (0, 2, 0), (0, -1, 0), (0, 0, 5), (0, 0, -1), (10**20, 0, 0)):
            for need in (0, None):
                self.assertFalse(self.shows(needs={**self.right.needs, triple: need}))
                swapped = {each: self.right.needs[each] for each in self.right.needs if each != (1, 1, 4)}
                self.assertFalse(self.shows(needs={**swapped, triple: need}))

    def test_heights_that_changed(self):
        right = needs(LINE, 9)
        for state, height in right.heights.items():
            need = right.needs[state[0], state[2], state[3]]
            for other in (height - 1, -1, 10):
                heights = {**right.heights, state: other}
                expected = right_needs((3, LINE.roads, LINE.prices, LINE.box), 9, right.needs, heights, right.levels, right.states)
                self.assertEqual(Needs(right.needs, heights, right.levels, right.states).shows(LINE, 9), expected)
                if need == state[1] and other in (-1, 10):
                    self.assertFalse(expected)
            heights = {each: right.heights[each] for each in right.heights if each != state}
            if need == state[1]:
                self.assertFalse(Needs(right.needs, heights, right.levels, right.states).shows(LINE, 9))

    def test_states_that_changed(self):
        for state in ((0, 0, 0, 0), (0, 3, 0, 1), (1, 0, 0, 0), (1, 3, 1, 4)):
            self.assertFalse(self.shows(states=self.right.states + [state]), state)
            self.assertFalse(self.shows(states=[state]), state)
            # They must hold also where the levels tell everything.
            self.assertFalse(self.shows(states=[state], levels={each: 6 for each in self.right.states}), state)
        for at in range(len(self.right.states)):
            self.assertTrue(self.shows(states=self.right.states[:at] + self.right.states[at + 1 :]))
            self.assertTrue(self.shows(states=self.right.states + self.right.states[at:]))

    def test_levels_that_changed(self):
        for state, level in (((0, 0, 0, 0), 1), ((0, 3, 0, 0), 1), ((1, 0, 0, 0), 1), ((0, 2, 0, 1), 6)):
            self.assertFalse(self.shows(levels={**self.right.levels, state: level}), state)
        self.assertTrue(self.shows(levels={**self.right.levels, (0, 0, 0, 0): 0}))
        right = needs(SHORT, 3)
        for ice in range(3):
            kept = {each: right.levels[each] for each in right.levels if each != (0, ice, 0, 1)}
            found = Needs(right.needs, right.heights, kept, right.states)
            self.assertEqual(found.shows(SHORT, 3), ice != 1)
            found = Needs(right.needs, right.heights, {**right.levels, (0, ice, 0, 1): 9 - 3 * ice}, right.states)
            self.assertTrue(found.shows(SHORT, 3))
            found = Needs(right.needs, right.heights, {**right.levels, (0, ice, 0, 1): 10 - 3 * ice}, right.states)
            self.assertFalse(found.shows(SHORT, 3))

    def test_for_another_purse_or_map(self):
        parts = (2, SHORT.roads, SHORT.prices, SHORT.box)
        found = needs(SHORT, 5)
        told = (found.needs, found.heights, found.levels, found.states)
        for purse in range(100):
            self.assertEqual(found.shows(SHORT, purse), right_needs(parts, purse, *told))
        # With another purse, other pieces are needed.
        self.assertTrue(found.shows(SHORT, 5))
        for purse in (0, 2, 6, 9, 99):
            self.assertFalse(found.shows(SHORT, purse))
        for chart in (BARE, LINE, Map(2, SHORT.roads, (2, None), SHORT.box), Map(2, SHORT.roads, SHORT.prices, (3, 1))):
            self.assertFalse(found.shows(chart, 5))

    def test_attributes_that_change(self):
        found = needs(SHORT, 3)
        for name in ("needs", "heights", "levels"):
            kept = getattr(found, name)
            setattr(found, name, {})
            self.assertFalse(found.shows(SHORT, 3))
            setattr(found, name, kept)
            self.assertTrue(found.shows(SHORT, 3))
        found.states.append((1, 0, 0, 0))
        self.assertFalse(found.shows(SHORT, 3))
        found.states.pop()
        found.needs[(0, 0, 1)] = 3
        self.assertFalse(found.shows(SHORT, 3))


class Changed(unittest.TestCase):
    """What is wrong in one thing, against what the tests themselves say of it."""

    def changed(self, chance, found, parts, states):
        own, heights, levels, held = dict(found.needs), dict(found.heights), dict(found.levels), list(found.states)
        kind, at, triple = chance.randrange(7), chance.choice(states), chance.choice(list(own))
        if kind == 0:
            own[triple] = chance.choice((None, *range(parts[3][0] + 2)))
        elif kind == 1:
            heights[at] = heights.get(at, 0) + chance.choice((-3, -1, 1, 3))
        elif kind == 2:
            heights.pop(at, None)
        elif kind == 3:
            levels[at] = levels.get(at, 0) + chance.choice((-3, -1, 1, 3))
        elif kind == 4:
            levels.pop(at, None)
            held = [state for state in held if state != at]
        elif kind == 5:
            held.append(at)
        else:
            del own[triple]
        return own, heights, levels, held

    def test_all(self):
        chance, answers = random.Random(115), []
        for parts in many_parts(116, 60, most_places=4, most_room=4):
            chart, states = Map(*parts), all_states(parts)
            for purse in (0, chance.randint(1, 30), 99):
                found = needs(chart, purse)
                for _ in range(8):
                    other = self.changed(chance, found, parts, states)
                    right = right_needs(parts, purse, *other)
                    self.assertEqual(Needs(*other).shows(chart, purse), right, (parts, purse))
                    answers.append(right)
        self.assertGreater(answers.count(True), 200)
        self.assertGreater(answers.count(False), 200)


class Conventions(unittest.TestCase):
    def test_dicts_and_the_list_are_copied(self):
        same, states = {(0, 0, 0): 1}, [(0, 0, 0, 0)]
        found = Needs(same, same, same, states)
        same.clear()
        states.clear()
        self.assertEqual((found.needs, found.heights, found.levels), ({(0, 0, 0): 1},) * 3)
        self.assertEqual(found.states, [(0, 0, 0, 0)])
        found.needs[(0, 0, 1)] = None
        found.states.append(1)
        self.assertEqual((same, states, found.heights, found.levels), ({}, [], {(0, 0, 0): 1}, {(0, 0, 0): 1}))

    def test_equality(self):
        told = ({(0, 0, 0): 1, (0, 0, 1): None}, {(0, 1, 0, 0): 0}, {(0, 0, 0, 0): 5}, [(0, 3, 0, 1), (0, 2, 0, 1)])
        one = Needs(*told)
        self.assertTrue(one == Needs(dict(reversed(list(told[0].items()))), *told[1:]))
        self.assertFalse(one != Needs(*told))
        for at, other in ((0, {(0, 0, 0): 1}), (1, {}), (2, {(0, 0, 0, 0): 6}), (3, told[3][:1]), (3, told[3][::-1])):
            changed = [other if each == at else told[each] for each in range(4)]
            self.assertFalse(one == Needs(*changed))
            self.assertTrue(one != Needs(*changed))

    def test_answers_are_new(self):
        first, expected = needs(LINE, 9), needs(LINE, 9)
        self.assertIsNot(first, expected)
        self.assertEqual(first, expected)
        for told in (first.needs, first.heights, first.levels, first.states):
            told.clear()
        self.assertEqual(needs(LINE, 9), expected)
        self.assertTrue(expected.shows(LINE, 9))

    def test_showing_changes_nothing(self):
        found = needs(LINE, 9)
        for purse in (0, 9, 99):
            found.shows(LINE, purse)
            found.shows(SHORT, purse)
        self.assertEqual(found, needs(LINE, 9))
        self.assertEqual(list(found.needs), list(needs(LINE, 9).needs))

    def test_keywords(self):
        found = needs(chart=SHORT, purse=3)
        told = {name: getattr(found, name) for name in ("needs", "heights", "levels", "states")}
        self.assertEqual(Needs(**told), found)
        self.assertTrue(found.shows(chart=SHORT, purse=3))
        self.assertEqual(need_at(chart=SHORT, purse=3, place=0, warm=0, late=1), 2)


class Wrong(unittest.TestCase):
    SHOWS = Needs({}, {}, {}, []).shows

    def test_no_map(self):
        for chart, purse in product(NOT_MAPS, (0, 100, None)):
            for call in (needs, self.SHOWS):
                with self.assertRaises(BadMap) as caught:
                    call(chart, purse)
                self.assertIsNone(caught.exception.part)
            for triple in ((0, 0, 0), (9, 9, 9), (None, None, None)):
                with self.assertRaises(BadMap):
                    need_at(chart, purse, *triple)

    def test_no_purse(self):
        for purse in NOT_PURSES:
            for call in (needs, self.SHOWS):
                with self.assertRaises(BadPurse):
                    call(LINE, purse)
            for triple in ((0, 0, 0), (9, 9, 9), (None, None, None)):
                with self.assertRaises(BadPurse):
                    need_at(LINE, purse, *triple)

    def test_no_triple(self):
        for triple, purse in product(NOT_TRIPLES, (0, 99)):
            with self.assertRaises(BadState):
                need_at(LINE, purse, *triple)

    def test_no_triple_of_this_map(self):
        self.assertEqual(need_at(Map(*WIDE), 0, 4, 2, 4), 0)
        self.assertEqual(need_at(Map(*CHAIN), 99, 4, 2, 4), 0)
        for chart in (LINE, Map(4, LINE.roads, (1, 1, 1, 1), (6, 2)), Map(5, LINE.roads, (1,) * 5, (6, 1))):
            with self.assertRaises(BadState):
                need_at(chart, 0, 4, 2, 4)


if __name__ == "__main__":
    unittest.main()
