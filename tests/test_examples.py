import doctest
import unittest
from pathlib import Path

README = Path(__file__).resolve().parent.parent / "README.md"

MAPS = """
>>> from coolway.maps import Map, moves, results
>>> line = Map(3, ((0, 1, 2, 1), (1, 2, 2, 1)), (2, 5, None), (4, 0))
>>> start = (0, 0, 0, 1)
>>> [moves(line, start), results(line, start, (2, 0)), results(line, start, (4, 0)), moves(line, (1, 3, 0, 0)), moves(line, (2, 0, 0, 0))]
[[(0, 0), (1, 0), (2, 0), (3, 0), (4, 0)], [(1, 0, 0, 1), None], [(1, 2, 0, 1), (1, 1, 0, 0)], [(0, 1), (1, 1)], []]
"""

SURE = """
>>> from coolway.maps import Map
>>> from coolway.sure import Spoils, Sure, sure, sure_cost
>>> line, tight = [Map(3, ((0, 1, 2, 1), (1, 2, 2, 1)), (2, 5, None), (room, 0)) for room in (4, 2)]
>>> start, late = (0, 0, 0, 0), (0, 0, 0, 1)
>>> heights = {start: 8, (1, 2, 0, 0): 0, (2, 0, 0, 0): 0}
>>> levels = {start: 8, (1, 0, 0, 0): 10, (1, 1, 0, 0): 5}
>>> shown = [Sure(8, heights, levels).shows(line, start), Sure(7, heights, levels).shows(line, start), Sure(8, heights, {}).shows(line, start), Spoils([late]).shows(tight, late), Spoils([start]).shows(line, start)]
>>> [[sure_cost(line, state) for state in (start, late)], [sure_cost(tight, state) for state in (start, late)], shown, sure(line, late).shows(line, late)]
[[8, 13], [14, None], [True, False, False, True, False], True]
"""

PLANS = """
>>> from coolway.maps import Map
>>> from coolway.plans import all_plans, spoiling
>>> line, tight, short = [Map(3, ((0, 1, 2, 1), (1, 2, 2, 1)), (2, 5, None), (room, 0)) for room in (4, 2, 1)]
>>> full = ((4, 0), (1, 1))
>>> [len(all_plans(line)), all_plans(short), spoiling(line, full, 1), spoiling(line, full, 2), spoiling(line, ((4, 0), (0, 1)), 1)]
[25, [((0, 0), (0, 1)), ((1, 0), (0, 1)), ((0, 0), (1, 1)), ((1, 0), (1, 1))], None, (0, 2), (0, 1)]
"""

FIXED = """
>>> from coolway.maps import Map
>>> from coolway.plans import fixed, fixed_cost
>>> from coolway.worths import late_pairs, late_prices, room_prices
>>> line, tight, short = [Map(3, ((0, 1, 2, 1), (1, 2, 2, 1)), (2, 5, None), (room, 0)) for room in (4, 2, 1)]
>>> [late_prices(line), late_pairs(line), room_prices(line, 0), [fixed_cost(line, late) for late in (0, 1, 2)], fixed(line, 1).shows(line, 1), fixed(tight, 1).shows(tight, 1)]
[[8, 13, 18, None, None], [(0, 8), (1, 13), (2, 18)], [None, 14, 11, 8, 8, 8], [8, 13, 18], True, True]
"""

DRIVERS = """
>>> from coolway.drivers import Arrives, Fails, driver_cost, judge, next_move
>>> from coolway.maps import Map
>>> line = Map(3, ((0, 1, 2, 1), (1, 2, 2, 1)), (2, 5, None), (4, 0))
>>> start, drivers = (0, 0, 0, 1), ('bare', 'safe', 'fill', 'thrifty')
>>> heights = {start: 16, (1, 1, 0, 1): 10, (1, 0, 0, 0): 10, (2, 1, 0, 1): 0, (2, 0, 0, 0): 0}
>>> found = [[next_move(line, state, driver) for driver in drivers] for state in (start, (1, 2, 0, 1))]
>>> shown = [Arrives(16, (0, 0), heights).shows(line, start, 'safe'), Arrives(16, (0,), heights).shows(line, start, 'safe'), Fails((1,)).shows(line, start, 'bare'), Fails((0,)).shows(line, start, 'bare')]
>>> [found, [driver_cost(line, start, driver) for driver in drivers], [driver_cost(line, (0, 0, 0, 0), driver) for driver in drivers], shown, judge(line, start, 'fill').shows(line, start, 'fill')]
[[[(2, 0), (3, 0), (4, 0), (4, 0)], [(0, 1), (1, 1), (2, 1), (2, 1)]], [None, 16, 23, 23], [14, 14, 18, 18], [True, False, True, False], True]
"""

KNOWING = """
>>> from coolway.knowing import Hopeless, Known, known, known_cost, not_knowing
>>> from coolway.maps import Map
>>> from coolway.sure import sure_cost
>>> line, twin = Map(3, ((0, 1, 2, 1), (1, 2, 2, 1)), (2, 5, None), (4, 0)), Map(2, ((0, 1, 1, 2), (0, 1, 2, 1)), (3, None), (4, 0))
>>> steep = Map(2, ((0, 1, 4, 2),), (1, None), (4, 0))
>>> plans = {(0, 0): ((2, 0),), (0, 1): ((2, 0),), (1, 0): ((2, 1),)}
>>> shown = [Known(6, plans, (0, 0)).shows(twin, 1), Known(6, {**plans, (1, 0): ((2, 0),)}, (0, 0)).shows(twin, 1), Known(9, plans, (0, 0)).shows(twin, 1), Hopeless((0,)).shows(steep, 0)]
>>> [[known_cost(line, late) for late in (0, 1)], known_cost(twin, 1), sure_cost(twin, (0, 0, 0, 1)), not_knowing(twin, 1), known_cost(steep, 0), not_knowing(steep, 0), shown, known(line, 1).shows(line, 1)]
[[8, 13], 6, 9, 3, None, None, [True, False, False, True], True]
"""

TEXTS = r"""
>>> from coolway.logs import after_log, melted, spent
>>> from coolway.maps import Map
>>> from coolway.sessions import Session
>>> from coolway.texts import map_text, read_map, read_state, state_text
>>> line = Map(3, ((0, 1, 2, 1), (1, 2, 2, 1)), (2, 5, None), (4, 0))
>>> start, log = (0, 0, 0, 1), [((4, 0), 1), ((1, 1), 0)]
>>> session = Session(line, 1)
>>> found = [session.drive((4, 0), 1), session.drive((0, 1), 0), session.is_there(), session.paid(), session.undo(), session.tried([((1, 1), 0)]), len(session)]
>>> facts = [after_log(line, start, log), spent(line, start, log), melted(line, start, log)]
>>> texts = [map_text(line), state_text(line, start), read_state(line, 'at 1 ice 4 warm 0 late 3\n'), read_map(map_text(line)) == line]
>>> [found, facts, texts]
[[(1, 1, 0, 0), None, False, 8, ((0, 1), 0), [(2, 0, 0, 0)], 1], [(2, 0, 0, 0), [8, 5], [3, 2]], ['places 3\nroad 0 1 2 1\nroad 1 2 2 1\nprices 2 5 -\nbox 4 0\n', 'at 0 ice 0 warm 0 late 1\n', (1, 4, 0, 3), True]]
"""

NEEDS = """
>>> from coolway.maps import Map
>>> from coolway.needs import need_at
>>> chart = Map(2, ((0, 1, 2, 1),), (3, None), (3, 0))
>>> [[need_at(chart, purse, 0, 0, 1) for purse in (0, 3, 9)], need_at(chart, 99, 0, 0, 2), need_at(chart, 0, 1, 0, 4)]
[[3, 2, 0], None, 0]
"""

REGRETS = """
>>> from coolway.maps import Map
>>> from coolway.regrets import greatest_regret, paid_with, regret
>>> chart = Map(2, ((0, 1, 2, 1),), (3, None), (3, 0))
>>> [greatest_regret(chart, 'safe', 1), greatest_regret(chart, 'bare', 1), paid_with(chart, 'safe', 1, (0,)), regret(chart, 'safe', 1).plan]
[3, None, 9, ((2, 0),)]
"""

ASKING = """
>>> from coolway.asking import asked_cost, does_help, greatest_fee, judge_asking
>>> from coolway.maps import Map
>>> from coolway.sure import sure_cost
>>> chart = Map(3, ((0, 1, 2, 1), (1, 2, 1, 3)), (9, 1, None), (6, 0))
>>> start = (0, 0, 0, 1)
>>> [[asked_cost(chart, start, fee) for fee in (0, 1, 2)], sure_cost(chart, start), [does_help(chart, start, fee) for fee in (1, 2)], [greatest_fee(chart, late) for late in (0, 1, 2)], judge_asking(chart, start, 2).number]
[[30, 31, 32], 32, [True, False], [None, 1, None], 32]
"""


class Examples(unittest.TestCase):
    """The examples of the document, with exactly the answers that stand there."""

    def check(self, name, text):
        example = doctest.DocTestParser().get_doctest(text, {}, name, None, 0)
        told = []
        done = doctest.DocTestRunner(verbose=False).run(example, out=told.append)
        self.assertEqual((done.failed, done.attempted), (0, text.count(">>>")), "".join(told))

    def test_maps(self):
        self.check("maps", MAPS)

    def test_sure(self):
        self.check("sure", SURE)

    def test_plans(self):
        self.check("plans", PLANS)

    def test_fixed(self):
        self.check("fixed", FIXED)

    def test_drivers(self):
        self.check("drivers", DRIVERS)

    def test_knowing(self):
        self.check("knowing", KNOWING)

    def test_texts(self):
        self.check("texts", TEXTS)

    def test_needs(self):
        self.check("needs", NEEDS)

    def test_regrets(self):
        self.check("regrets", REGRETS)

    def test_asking(self):
        self.check("asking", ASKING)

    def test_the_readme(self):
        self.check("README", README.read_text())


if __name__ == "__main__":
    unittest.main()
