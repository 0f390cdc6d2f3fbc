import random
import re
import unittest
from itertools import product

from coolway.errors import BadMap, BadState, BadText
from coolway.maps import Map
from coolway.texts import map_text, read_map, read_state, state_text
from search import BOUNDS, all_states, many_parts
from test_moves import NOT_MAPS, NOT_STATES

LINE = Map(3, ((0, 1, 2, 1), (1, 2, 2, 1)), (2, 5, None), (4, 0))
TEXT = "places 3\nroad 0 1 2 1\nroad 1 2 2 1\nprices 2 5 -\nbox 4 0\n"
ROWS = TEXT.splitlines(keepends=True)
# A map of which the states in NOT_STATES are none.
WARM = Map(3, LINE.roads, LINE.prices, (4, 1))
STATE = "at 0 ice 4 warm 0 late 1\n"
SEVEN = tuple((0, 1, hours, melt) for hours in (1, 2) for melt in range(4))[:7]
FULL = Map(5, SEVEN[:6] + ((3, 4, 4, 3),), (1, 9, None, 2, None), (6, 2))
LOW = Map(2, ((0, 1, 1, 0),), (None, None), (1, 0))
NOT_TEXTS = (None, True, 0, 3, b"places 3\n", TEXT.encode(), [TEXT], (TEXT,), ROWS, {}, {TEXT: 1}, object(), str, LINE)
# Signs that stand in texts, or look like such ones: digits and spaces of other kinds, line ends, brackets.
SIGNS = list("0123456789 -+_.,ABabceimnoprstwx\n\t\r\v\f\x00\x1c\x85\xa0") + ["\u0661", "\u00b2", "\uff11", "\u2028", "\u2212"]


def text_rows(text):
    """The rows of a text with their line feeds, and what stands behind the last one."""
    rows = re.findall("[^\n]*\n", text)
    return rows, text[sum(map(len, rows)) :]


def own_map(text):
    """The row that is wrong in the text of a map, or the four parts if none is."""
    rows, rest = text_rows(text)
    found = re.fullmatch("places ([2-5])\n", rows[0]) if rows else None
    if not found:
        return 0
    places, roads, row = int(found[1]), [], 1
    while row < len(rows) and row <= 7:
        found = re.fullmatch("road ([0-4]) ([0-4]) ([1-4]) ([0-3])\n", rows[row])
        road = tuple(map(int, found.groups())) if found else ()
        if not found or not road[0] < road[1] < places or roads and road <= roads[-1]:
            break
        roads.append(road)
        row += 1
    found = re.fullmatch("prices(( [1-9-]){%d})\n" % places, rows[row]) if row < len(rows) else None
    if not roads or not found:
        return row
    prices = tuple(None if word == "-" else int(word) for word in found[1].split())
    found = re.fullmatch("box ([1-6]) ([0-2])\n", rows[row + 1]) if row + 1 < len(rows) else None
    if not found:
        return row + 1
    if rest or len(rows) > row + 2:
        return row + 2
    return places, tuple(roads), prices, (int(found[1]), int(found[2]))


def own_state(parts, text):
    """The row that is wrong in the text of a state, or the state if none is."""
    rows, rest = text_rows(text)
    found = re.fullmatch("at ([0-9]) ice ([0-9]) warm ([0-9]) late ([0-9])\n", rows[0]) if rows else None
    state = tuple(map(int, found.groups())) if found else ()
    if state not in all_states(parts):
        return 0
    return 1 if rest or len(rows) > 1 else state


def changed(text, at, sign):
    """A text with a sign put in, in the place of another one, and twice; and with one left out."""
    yield text[:at] + sign + text[at:]
    yield text[:at] + sign + text[at + 1 :]
    yield text[:at] + sign + sign + text[at:]
    yield text[:at] + text[at + 1 :]


class Texts(unittest.TestCase):
    def test_maps(self):
        self.assertEqual(map_text(LINE), TEXT)
        self.assertEqual(map_text(LOW), "places 2\nroad 0 1 1 0\nprices - -\nbox 1 0\n")
        roads = "".join(f"road 0 1 {hours} {melt}\n" for _, _, hours, melt in SEVEN[:6])
        self.assertEqual(map_text(FULL), f"places 5\n{roads}road 3 4 4 3\nprices 1 9 - 2 -\nbox 6 2\n")

    def test_maps_read_again(self):
        for parts in many_parts(101, 200) + list(BOUNDS):
            chart = Map(*parts)
            text = map_text(chart)
            self.assertEqual(own_map(text), parts)
            found = read_map(text)
            self.assertIs(type(found), Map)
            self.assertEqual(found, chart)
            self.assertEqual((found.places, found.roads, found.prices, found.box), parts)
            self.assertEqual(map_text(found), text)

    def test_maps_at_their_bounds(self):
        for places in range(2, 6):
            for price in (None, *range(1, 10)):
                chart = Map(places, ((0, places - 1, 4, 3),), (price,) * places, (1, 2))
                self.assertEqual(read_map(map_text(chart)), chart)
        for room, bear in product(range(1, 7), range(3)):
            chart = Map(2, SEVEN, (1, 9), (room, bear))
            self.assertEqual(read_map(map_text(chart)), chart)
        for hours, melt in product(range(1, 5), range(4)):
            chart = Map(5, ((3, 4, hours, melt),), (1,) * 5, (6, 2))
            self.assertEqual(read_map(map_text(chart)), chart)
        self.assertEqual(read_map(map_text(FULL)), FULL)
        self.assertEqual(read_map(map_text(LOW)), LOW)

    def test_states(self):
        self.assertEqual(state_text(LINE, (0, 4, 0, 1)), STATE)
        self.assertEqual(state_text(FULL, (4, 6, 2, 4)), "at 4 ice 6 warm 2 late 4\n")
        self.assertEqual(read_state(FULL, "at 4 ice 6 warm 2 late 4\n"), (4, 6, 2, 4))

    def test_states_read_again(self):
        for parts in many_parts(102, 6) + list(BOUNDS):
            chart = Map(*parts)
            for state in all_states(parts):
                text = state_text(chart, state)
                self.assertEqual(text, "at {} ice {} warm {} late {}\n".format(*state))
                self.assertEqual(read_state(chart, text), state)
        self.assertIs(type(read_state(LINE, STATE)), tuple)


class WrongMaps(unittest.TestCase):
    def check(self, text):
        """Compares with the tests' own reading, and returns the row, None for a text that is right."""
        expected = own_map(text)
        if isinstance(expected, tuple):
            self.assertEqual(read_map(text), Map(*expected), repr(text))
            self.assertEqual(map_text(read_map(text)), text)
            return None
        with self.assertRaises(BadText, msg=repr(text)) as caught:
            read_map(text)
        self.assertEqual(caught.exception.row, expected, repr(text))
        self.assertIs(type(caught.exception.row), int)
        return expected

    def refuse(self, row, text):
        self.assertEqual(self.check(text), row, repr(text))

    def test_no_text(self):
        for text in NOT_TEXTS:
            with self.assertRaises(BadText) as caught:
                read_map(text)
            self.assertEqual(caught.exception.row, 0)

    def test_a_line_left_out(self):
        self.refuse(0, "".join(ROWS[1:]))
        self.refuse(None, "".join(ROWS[:1] + ROWS[2:]))
        self.refuse(1, "".join(ROWS[:1] + ROWS[3:]))
        self.refuse(3, "".join(ROWS[:3] + ROWS[4:]))
        self.refuse(4, "".join(ROWS[:4]))

    def test_lines_missing_at_the_end(self):
        for size in range(5):
            self.refuse(size, "".join(ROWS[:size]))
        self.refuse(0, "")

    def test_a_line_twice(self):
        for row, wrong in enumerate((1, 2, 3, 4, 5)):
            self.refuse(wrong, "".join(ROWS[: row + 1] + ROWS[row:]))

    def test_a_line_in_another_place(self):
        for row, other in product(range(5), repeat=2):
            rows = list(ROWS)
            rows.insert(other, rows.pop(row))
            self.check("".join(rows))
        self.refuse(2, "".join([ROWS[0], ROWS[2], ROWS[1], ROWS[3], ROWS[4]]))
        self.refuse(3, "".join([ROWS[0], ROWS[1], ROWS[2], ROWS[4], ROWS[3]]))

    def test_a_line_too_many(self):
        for at in range(6):
            for row in ("\n", " \n", "x\n", "road 2 2 1 1\n", "-\n"):
                self.refuse(at, "".join(ROWS[:at] + [row] + ROWS[at:]))
            # Where such a line may stand, the next one may not.
            for row, right in (("places 3\n", (0,)), ("prices 1 1 1\n", (2, 3)), ("box 1 0\n", (4,))):
                self.refuse(at + 1 if at in right else at, "".join(ROWS[:at] + [row] + ROWS[at:]))
        self.refuse(None, "".join(ROWS[:3] + ["road 1 2 2 2\n"] + ROWS[3:]))

    def test_each_sign(self):
        for text in (TEXT, map_text(FULL), map_text(LOW)):
            rows = []
            for at in range(len(text) + 1):
                for sign in SIGNS:
                    for other in changed(text, at, sign):
                        rows.append(self.check(other))
            self.assertGreater(rows.count(None), 100)
            for row in range(text.count("\n") + 1):
                self.assertGreater(rows.count(row), 50)

    def test_spaces_and_line_ends(self):
        for row, line in enumerate(ROWS):
            bare = line[:-1]
            for other in (
                bare + " \n",
                " " + line,
                bare + "\t\n",
                "\t" + line,
                line.replace(" ", "  ", 1),
                line.replace(" ", "\t", 1),
                line.replace(" ", "\xa0", 1),
                line.replace(" ", "", 1),
                bare + "\r\n",
                bare + "\r",
                bare + "\x0b\n",
                bare + "\x0c\n",
                bare + "\x85\n",
                bare + "\u2028\n",
                line.upper(),
                line.capitalize(),
                line[0] + line,
                line[1:],
            ):
                self.refuse(row, "".join(ROWS[:row] + [other] + ROWS[row + 1 :]))
            self.refuse(row + 1, "".join(ROWS[: row + 1] + ["\n"] + ROWS[row + 1 :]))
        self.refuse(0, TEXT.replace("\n", "\r\n"))
        self.refuse(0, TEXT.replace("\n", "\r"))
        self.refuse(0, "\ufeff" + TEXT)

    def test_numbers(self):
        for row, numbers in enumerate(("3", "0 1 2 1", "1 2 2 1", "2 5 -", "4 0")):
            words = numbers.split()
            for at, word in enumerate(words):
                others = ["-1", "+1", "01", "10", "11", "1.", "1,", "1_0", "", "x", "None", "0x1", "\u0661", "\u00b2", "\uff12"]
                if word != "-":
                    others += ["-" + word, "+" + word, "0" + word, word + "0", word + word]
                for other in others:
                    changed_words = words[:at] + [other] + words[at + 1 :]
                    line = " ".join([ROWS[row].split()[0]] + changed_words) + "\n"
                    self.refuse(row, "".join(ROWS[:row] + [line] + ROWS[row + 1 :]))
            for line in (ROWS[row][:-1] + " 1\n", ROWS[row][:-1] + " -\n", ROWS[row][:-3] + "\n"):
                self.refuse(row, "".join(ROWS[:row] + [line] + ROWS[row + 1 :]))

    def test_prices_and_signs_for_none(self):
        for word in ("0", "None", "none", "--", "\u2212", "\u2013", "_", ""):
            self.refuse(3, TEXT.replace("5", word))
        self.refuse(None, TEXT.replace("5", "-"))
        for word in "-":
            self.refuse(0, TEXT.replace("places 3", "places " + word))
            self.refuse(1, TEXT.replace("road 0 1 2 1", "road 0 1 2 " + word))
            self.refuse(1, TEXT.replace("road 0 1 2 1", "road " + word + " 1 2 1"))
            self.refuse(4, TEXT.replace("box 4 0", "box 4 " + word))
            self.refuse(4, TEXT.replace("box 4 0", "box " + word + " 0"))

    def test_numbers_beyond_their_bounds(self):
        for places in "016789":
            self.refuse(0, TEXT.replace("places 3", "places " + places))
        for road in ("0 1 0 1", "0 1 5 1", "0 1 1 4", "0 3 1 1", "1 0 1 1", "0 0 1 1", "2 2 1 1", "2 1 1 1", "2 3 1 1"):
            self.refuse(1, TEXT.replace("road 0 1 2 1", "road " + road))
        for box in ("0 0", "7 0", "4 3", "9 9"):
            self.refuse(4, TEXT.replace("box 4 0", "box " + box))

    def test_numbers_beyond_those_of_the_places(self):
        # The numbers alone would be right in a larger or smaller map.
        self.refuse(2, TEXT.replace("places 3", "places 2"))
        self.refuse(3, TEXT.replace("places 3", "places 4"))
        self.refuse(3, TEXT.replace("places 3", "places 5"))
        self.refuse(3, TEXT.replace("2 5 -", "2 5"))
        self.refuse(3, TEXT.replace("2 5 -", "2 5 - -"))
        self.refuse(2, TEXT.replace("road 1 2 2 1", "road 1 3 2 1"))

    def test_roads_that_are_not_ascending(self):
        for road in ("0 1 2 1", "0 1 2 0", "0 1 1 3", "0 1 1 1"):
            self.refuse(2, TEXT.replace("road 1 2 2 1", "road " + road))
        for road in ("0 1 2 2", "0 1 3 0", "0 2 1 0", "1 2 1 0"):
            self.refuse(None, TEXT.replace("road 1 2 2 1", "road " + road))
        third = TEXT.replace("prices", "road 1 2 2 0\nprices")
        self.refuse(3, third)
        self.refuse(3, third.replace("road 1 2 2 0", "road 0 1 2 1"))

    def test_an_eighth_road(self):
        text = map_text(Map(2, SEVEN, (1, 1), (1, 0)))
        self.refuse(None, text)
        for road in ("road 0 1 2 3\n", "road 0 1 4 3\n", "road 0 1 1 0\n", "road\n"):
            self.refuse(8, text.replace("prices", road + "prices"))
        self.refuse(8, text.replace("prices", "road 0 1 2 3\nroad 0 1 3 0\nprices"))
        self.refuse(8, text[: text.index("prices")])

    def test_no_roads(self):
        self.refuse(1, "places 3\nprices 2 5 -\nbox 4 0\n")
        self.refuse(1, "places 3\n")

    def test_the_end(self):
        self.refuse(4, TEXT[:-1])
        for rest in ("x", " ", "box 4 0", "\r", "\t", "\x00", "-"):
            self.refuse(5, TEXT + rest)
            self.refuse(5, TEXT + "\n" + rest)
            self.refuse(5, TEXT + rest + "\n")
        self.refuse(5, TEXT + "\n")
        self.refuse(5, TEXT + TEXT)
        for size in range(len(TEXT)):
            self.refuse(TEXT[:size].count("\n"), TEXT[:size])

    def test_the_first_of_two_wrong_lines(self):
        wrong = [line[:-1] + " \n" for line in ROWS]
        for first, second in product(range(5), repeat=2):
            rows = [wrong[at] if at in (first, second) else line for at, line in enumerate(ROWS)]
            self.refuse(min(first, second), "".join(rows))
            self.refuse(min(first, second), "".join(rows) + "x")

    def test_many_maps_with_changes(self):
        chance = random.Random(103)
        for parts in many_parts(104, 300):
            text = map_text(Map(*parts))
            for _ in range(chance.randint(1, 2)):
                text = chance.choice(list(changed(text, chance.randrange(len(text)), chance.choice(SIGNS))))
            self.check(text)


class WrongStates(unittest.TestCase):
    PARTS = (3, LINE.roads, LINE.prices, (4, 1))

    def check(self, text, parts=PARTS):
        expected = own_state(parts, text)
        if isinstance(expected, tuple):
            self.assertEqual(read_state(Map(*parts), text), expected)
            self.assertEqual(state_text(Map(*parts), expected), text)
            return None
        with self.assertRaises(BadText, msg=repr(text)) as caught:
            read_state(Map(*parts), text)
        self.assertEqual(caught.exception.row, expected, repr(text))
        self.assertIs(type(caught.exception.row), int)
        return expected

    def test_no_text(self):
        for text in NOT_TEXTS:
            with self.assertRaises(BadText) as caught:
                read_state(LINE, text)
            self.assertEqual(caught.exception.row, 0)

    def test_each_sign(self):
        rows = []
        for text in (STATE, "at 2 ice 0 warm 1 late 4\n"):
            for at in range(len(text) + 1):
                for sign in SIGNS:
                    rows += [self.check(other) for other in changed(text, at, sign)]
        self.assertTrue(all(rows.count(row) > 50 for row in (None, 0, 1)))

    def test_numbers_of_the_map(self):
        for digits in product("0123456789", repeat=2):
            for form in ("at {} ice {} warm 0 late 0\n", "at 0 ice 0 warm {} late {}\n", "at 1 ice {} warm 1 late {}\n"):
                self.check(form.format(*digits))
        for state in ("at 3 ice 0 warm 0 late 0", "at 0 ice 5 warm 0 late 0", "at 0 ice 0 warm 2 late 0", "at 0 ice 0 warm 0 late 5"):
            self.assertEqual(self.check(state + "\n"), 0)
        # The same text is right for one map and wrong for another one.
        text = "at 4 ice 6 warm 2 late 4\n"
        self.assertEqual(read_state(FULL, text), (4, 6, 2, 4))
        for parts in (
            (4, FULL.roads[:6], FULL.prices[:4], FULL.box),
            (5, FULL.roads, FULL.prices, (5, 2)),
            (5, FULL.roads, FULL.prices, (6, 1)),
        ):
            self.assertEqual(self.check(text, parts), 0)

    def test_words(self):
        for other in (
            "in 0 ice 4 warm 0 late 1\n",
            "at 0 Ice 4 warm 0 late 1\n",
            "at 0 ice 4 late 1 warm 0\n",
            "at 0 ice 4 warm 0\n",
            "at 0 ice 4 warm 0 late\n",
            "at 0 ice 4 warm 0 late 1 at\n",
            "at 0 ice 4 warm 0 late 1 at 0\n",
            "ice 4 at 0 warm 0 late 1\n",
            "0 4 0 1\n",
            "(0, 4, 0, 1)\n",
            "at 0 ice - warm 0 late 1\n",
            "at -0 ice 4 warm 0 late 1\n",
            "at 0 ice +4 warm 0 late 1\n",
            "at 00 ice 4 warm 0 late 1\n",
            "at 0 ice 4 warm 0 late 1\r\n",
            "at 0 ice 4 warm 0 late 1 \n",
            " at 0 ice 4 warm 0 late 1\n",
            "at  0 ice 4 warm 0 late 1\n",
            "at\t0 ice 4 warm 0 late 1\n",
            "None\n",
            "\n",
        ):
            self.assertEqual(self.check(other), 0, repr(other))
            self.assertEqual(self.check(other + STATE), 0)

    def test_the_end(self):
        self.assertEqual(self.check(""), 0)
        for size in range(len(STATE)):
            self.assertEqual(self.check(STATE[:size]), 0)
        for rest in ("\n", " ", "x", " \n", STATE, STATE[:-1], "\r", "\n\n", "\x00"):
            self.assertEqual(self.check(STATE + rest), 1, repr(rest))
            self.assertEqual(self.check("at 9" + STATE[4:] + rest), 0)


class Wrong(unittest.TestCase):
    def test_no_map(self):
        for chart in NOT_MAPS:
            for call in (
                lambda: map_text(chart),
                lambda: state_text(chart, (0, 0, 0, 0)),
                lambda: state_text(chart, None),
                lambda: read_state(chart, STATE),
                lambda: read_state(chart, ""),
                lambda: read_state(chart, None),
            ):
                with self.assertRaises(BadMap) as caught:
                    call()
                self.assertIsNone(caught.exception.part)

    def test_no_state(self):
        for state in NOT_STATES:
            with self.assertRaises(BadState):
                state_text(WARM, state)

    def test_keywords(self):
        self.assertEqual(map_text(chart=LINE), TEXT)
        self.assertEqual(read_map(text=TEXT), LINE)
        self.assertEqual(read_state(chart=LINE, text=state_text(chart=LINE, state=(0, 4, 0, 1))), (0, 4, 0, 1))

    def test_new_maps(self):
        self.assertIsNot(read_map(TEXT), read_map(TEXT))


if __name__ == "__main__":
    unittest.main()
