import doctest
import unittest

MAPS = """
>>> from coolway.maps import Map, moves, results
>>> line = Map(3, ((0, 1, 2, 1), (1, 2, 2, 1)), (2, 5, None), (4, 0))
>>> start = (0, 0, 0, 1)
>>> [moves(line, start), results(line, start, (2, 0)), results(line, start, (4, 0)), moves(line, (1, 3, 0, 0)), moves(line, (2, 0, 0, 0))]
[[(0, 0), (1, 0), (2, 0), (3, 0), (4, 0)], [(1, 0, 0, 1), None], [(1, 2, 0, 1), (1, 1, 0, 0)], [(0, 1), (1, 1)], []]
"""

SURE = """
>>> from coolway.maps import Map
>>> from coolway.sure import Spoils, Sure, sure, sure_cost
>>> line, tight = [Map(3, ((0, 1, 2, 1), (1, 2, 2, 1)), (2, 5, None), (room, 0)) for room in (4, 2)]
>>> start, late = (0, 0, 0, 0), (0, 0, 0, 1)
>>> heights = {start: 8, (1, 2, 0, 0): 0, (2, 0, 0, 0): 0}
>>> levels = {start: 8, (1, 0, 0, 0): 10, (1, 1, 0, 0): 5}
>>> shown = [Sure(8, heights, levels).shows(line, start), Sure(7, heights, levels).shows(line, start), Sure(8, heights, {}).shows(line, start), Spoils([late]).shows(tight, late), Spoils([start]).shows(line, start)]
>>> [[sure_cost(line, state) for state in (start, late)], [sure_cost(tight, state) for state in (start, late)], shown, sure(line, late).shows(line, late)]
[[8, 13], [14, None], [True, False, False, True, False], True]
"""


class Examples(unittest.TestCase):
    """The examples of the document, with exactly the answers that stand there."""

    def check(self, name, text):
        example = doctest.DocTestParser().get_doctest(text, {}, name, None, 0)
        told = []
        done = doctest.DocTestRunner(verbose=False).run(example, out=told.append)
        self.assertEqual((done.failed, done.attempted), (0, text.count(">>>")), "".join(told))

    def test_maps(self):
        self.check("maps", MAPS)

    def test_sure(self):
        self.check("sure", SURE)


if __name__ == "__main__":
    unittest.main()
