import random
import unittest
from itertools import product

from coolway.errors import BadLog, BadMap, BadState
from coolway.logs import after_log, melted, spent
from coolway.maps import Map
from search import BOUNDS, all_states, many_parts, own_cost, own_moves, own_result
from test_moves import NOT_MAPS, NOT_MOVES, NOT_STATES

LINE = Map(3, ((0, 1, 2, 1), (1, 2, 2, 1)), (2, 5, None), (4, 0))
# A map of which the states in NOT_STATES are none, and the moves in NOT_MOVES not possible at its beginning.
WARM = Map(3, LINE.roads, LINE.prices, (4, 1))
START = (0, 0, 0, 1)
LOG = [((4, 0), 1), ((1, 1), 0)]
CALLS = (after_log, spent, melted)
NOT_LOGS = (
    None,
    True,
    0,
    12,
    "",
    "log",
    b"",
    {},
    {0: LOG[0]},
    set(),
    object(),
    Map,
    range(0),
    iter([]),
    (pair for pair in LOG),
    [LOG[0]] * 13,
    (LOG[0],) * 13,
    [None] * 13,
    LOG + [None] * 11,
    [None] * 1000,
)
NOT_PAIRS = (
    None,
    True,
    0,
    "40",
    b"40",
    (),
    [],
    {},
    object(),
    [(4, 0), 1],
    ((4, 0),),
    ((4, 0), 1, 0),
    (((4, 0), 1),),
    (4, 0),
    (4, 0, 1),
    (1, (4, 0)),
    ((4, 0), None),
    ((4, 0), True),
    ((4, 0), False),
    ((4, 0), "1"),
    ((4, 0), (1,)),
    ((4, 0), [1]),
    ((4, 0), -1),
    ((4, 0), 2),
    ((4, 0), 10**20),
    ([4, 0], 1),
    (None, 1),
    ((4, False), 1),
    ((5, 0), 1),
    ((-1, 0), 1),
    ((4, 1), 1),
    ((4, 2), 1),
    ((4, -1), 1),
    # Moves that are possible, but then the goods are spoiled.
    ((2, 0), 1),
    ((1, 0), 0),
    ((0, 0), 0),
)


def own_log(parts, state, chance, most=4):
    """A log by chance, with the state after each of its pairs."""
    log, states = [], []
    for _ in range(chance.randint(0, most)):
        ways = [
            (move, more, own_result(parts, state, move, more))
            for move in own_moves(parts, state)
            for more in range(state[3] + 1)
        ]
        ways = [way for way in ways if way[2] is not None]
        if not ways:
            break
        move, more, state = chance.choice(ways)
        log.append((move, more))
        states.append(state)
    return log, states


class Logs(unittest.TestCase):
    def test_the_line(self):
        for log in (LOG, tuple(LOG)):
            self.assertEqual(after_log(LINE, START, log), (2, 0, 0, 0))
            self.assertEqual(spent(LINE, START, log), [8, 5])
            self.assertEqual(melted(LINE, START, log), [3, 2])

    def test_no_pair(self):
        for log in ([], ()):
            for state in (START, (1, 3, 0, 2), (2, 4, 0, 4)):
                self.assertEqual(after_log(LINE, state, log), state)
                self.assertEqual(spent(LINE, state, log), [])
                self.assertEqual(melted(LINE, state, log), [])

    def test_one_pair(self):
        self.assertEqual(after_log(LINE, START, LOG[:1]), (1, 1, 0, 0))
        self.assertEqual((spent(LINE, START, LOG[:1]), melted(LINE, START, LOG[:1])), ([8], [3]))
        self.assertEqual(after_log(LINE, (1, 4, 0, 4), [((0, 1), 2)]), (2, 0, 0, 2))

    def test_four_pairs(self):
        chart = Map(5, ((0, 1, 1, 1), (1, 2, 1, 2), (2, 3, 1, 0), (3, 4, 1, 3)), (1, None, 3, 9, None), (6, 1))
        log = [((5, 0), 1), ((0, 1), 0), ((3, 2), 2), ((0, 3), 1)]
        self.assertEqual(after_log(chart, (0, 0, 0, 4), log), (4, 0, 1, 0))
        self.assertEqual(spent(chart, (0, 0, 0, 4), log), [5, 0, 9, 0])
        self.assertEqual(melted(chart, (0, 0, 0, 4), log), [2, 2, 0, 4])

    def test_ice_that_is_lost_in_a_warm_hour_melts_too(self):
        chart = Map(2, ((0, 1, 2, 3),), (2, None), (6, 2))
        self.assertEqual(melted(chart, (0, 1, 0, 0), [((4, 0), 0)]), [5])
        self.assertEqual(melted(chart, (0, 0, 0, 0), [((2, 0), 0)]), [2])
        self.assertEqual(melted(chart, (0, 0, 0, 0), [((0, 0), 0)]), [0])
        self.assertEqual(after_log(chart, (0, 1, 0, 0), [((4, 0), 0)]), (1, 0, 1, 0))

    def test_against_the_tests_own(self):
        chance, sizes = random.Random(81), []
        for parts in many_parts(82, 150) + list(BOUNDS):
            chart = Map(*parts)
            for state in chance.sample(all_states(parts), 6) + [(0, 0, 0, late) for late in range(5)]:
                log, states = own_log(parts, state, chance)
                before = [state] + states
                for told in (log, tuple(log)):
                    self.assertEqual(after_log(chart, state, told), before[-1])
                    costs = [own_cost(parts, at, move) for at, (move, _) in zip(before, log)]
                    self.assertEqual(spent(chart, state, told), costs)
                    less = [at[1] + move[0] - end[1] for at, (move, _), end in zip(before, log, states)]
                    self.assertEqual(melted(chart, state, told), less)
                sizes.append(len(log))
        self.assertTrue(all(sizes.count(size) > 20 for size in range(4)), sizes)

    def test_kinds(self):
        for log in (LOG, tuple(LOG)):
            self.assertIs(type(after_log(LINE, START, log)), tuple)
            self.assertIs(type(spent(LINE, START, log)), list)
            self.assertIs(type(melted(LINE, START, log)), list)


class Conventions(unittest.TestCase):
    def test_new_lists(self):
        for call in (spent, melted):
            first = call(LINE, START, LOG)
            expected = list(first)
            first.clear()
            self.assertEqual(call(LINE, START, LOG), expected)
            self.assertIsNot(call(LINE, START, []), call(LINE, START, []))

    def test_logs_are_not_changed(self):
        log = list(LOG)
        for call in CALLS:
            call(LINE, START, log)
            self.assertEqual(log, LOG)
        wrong = [LOG[0], None]
        for call in CALLS:
            with self.assertRaises(BadLog):
                call(LINE, START, wrong)
            self.assertEqual(wrong, [LOG[0], None])

    def test_keywords(self):
        for call in CALLS:
            self.assertEqual(call(chart=LINE, state=START, log=LOG), call(LINE, START, LOG))


class Wrong(unittest.TestCase):
    def refuse(self, index, log, state=START, chart=LINE):
        for call in CALLS:
            with self.assertRaises(BadLog) as caught:
                call(chart, state, log)
            self.assertEqual(caught.exception.index, index, log)
            self.assertIs(type(caught.exception.index), type(index))

    def test_no_map(self):
        for call, chart, state, log in product(CALLS, NOT_MAPS, (START, None), (LOG, None)):
            with self.assertRaises(BadMap) as caught:
                call(chart, state, log)
            self.assertIsNone(caught.exception.part)

    def test_no_state(self):
        for call, state, log in product(CALLS, NOT_STATES, (LOG, [], None)):
            with self.assertRaises(BadState):
                call(WARM, state, log)

    def test_no_list_or_tuple_or_too_long(self):
        for log in NOT_LOGS:
            self.refuse(None, log)

    def test_exactly_twelve(self):
        # Nobody can go on behind the goal, so the first item behind it is wrong.
        for size in range(3, 13):
            for more in (None, ((0, 1), 0), ((0, 0), 0), LOG[1]):
                log = LOG + [more] * (size - 2)
                self.refuse(2, log)
                self.refuse(2, tuple(log))
        self.refuse(0, [None] * 12)
        self.refuse(None, [None] * 13)
        self.refuse(None, LOG + [LOG[1]] * 11)

    def test_the_first_item(self):
        for pair in NOT_PAIRS:
            self.refuse(0, [pair])
            self.refuse(0, (pair,))
            self.refuse(0, [pair] + LOG)
            self.refuse(0, [pair, None])

    def test_the_second_item(self):
        # One hour was late already, so no more may be; with one piece, no hour may be late at all.
        for pair in (None, ((1, 1), 1), ((4, 1), 0), ((0, 1), 0), ((1, 0), 0), ((1, 1), -1), ((1, 1), True), [(1, 1), 0], ((1, 1),)):
            self.refuse(1, [LOG[0], pair])
            self.refuse(1, (LOG[0], pair, None))
            self.refuse(1, [LOG[0], pair, LOG[1]])
        self.assertEqual(after_log(LINE, START, [((4, 0), 0), ((1, 1), 1)]), (2, 0, 0, 0))
        self.refuse(1, [((4, 0), 0), ((0, 1), 1)])
        self.refuse(1, [((4, 0), 0), ((1, 1), 2)])

    def test_moves_that_are_none(self):
        for move in NOT_MOVES:
            self.refuse(0, [(move, 0)], state=(0, 1, 0, 0), chart=WARM)

    def test_at_the_goal_and_where_no_road_leads_on(self):
        for pair in (((0, 1), 0), ((0, 0), 0), None):
            self.refuse(0, [pair], state=(2, 4, 0, 4))
        chart = Map(3, ((0, 1, 1, 1), (0, 2, 1, 1)), (1, 1, 1), (4, 0))
        self.refuse(1, [((1, 0), 0), ((0, 1), 0)], state=(0, 0, 0, 0), chart=chart)

    def test_against_the_tests_own(self):
        chance, places = random.Random(83), []
        for parts in many_parts(84, 150):
            chart, state = Map(*parts), (0, 0, 0, chance.randrange(5))
            log, states = own_log(parts, state, chance)
            if not log:
                continue
            at = chance.randrange(len(log))
            move, more = log[at]
            other = chance.choice((((move[0] + 1, move[1]), more), (move, more + 1), ((0, move[1]), more), (move, 0)))
            before = ([state] + states)[at]
            right = other[0] in own_moves(parts, before) and other[1] <= before[3]
            if not right or own_result(parts, before, *other) is None:
                self.refuse(at, log[:at] + [other] + log[at + 1 :], state=state, chart=chart)
                places.append(at)
            else:
                after_log(chart, state, log[:at] + [other])
        self.assertGreater(min(places.count(at) for at in range(3)), 1)


if __name__ == "__main__":
    unittest.main()
