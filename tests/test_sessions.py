import random
import unittest
from itertools import product

from coolway.errors import (
    BadLateness,
    BadLog,
    BadMap,
    BadMore,
    BadMove,
    CoolError,
    NothingDone,
    Spoiled,
)
from coolway.maps import Map
from coolway.sessions import Session
from search import BOUNDS, many_parts, own_cost, own_moves, own_result
from test_logs import LOG, NOT_LOGS, NOT_PAIRS
from test_moves import NOT_MAPS, NOT_MOVES
from test_worths import NOT_LATENESSES

LINE = Map(3, ((0, 1, 2, 1), (1, 2, 2, 1)), (2, 5, None), (4, 0))
WARM = Map(3, LINE.roads, LINE.prices, (4, 1))
NOT_MORES = (None, True, False, "1", "", b"1", (), (1,), [], [1], {}, object(), Map, -1, 2, 5, 10**20, -(10**20))
SPOIL = ((0, 1), 0)


def facts(session):
    """All that a session tells of itself."""
    return session.state, session.journal, len(session), list(session), session.is_there(), session.paid()


def after(*pairs, chart=LINE, late=1):
    session = Session(chart, late)
    for move, more in pairs:
        session.drive(move, more)
    return session


def spoiled():
    return after(LOG[0], SPOIL)


class Failure(Exception):
    pass


class Told(BaseException):
    pass


class Drive(unittest.TestCase):
    def test_the_beginning(self):
        for late in range(5):
            self.assertEqual(facts(Session(LINE, late)), ((0, 0, 0, late), [], 0, [], False, 0))

    def test_to_the_goal(self):
        session = Session(LINE, 1)
        self.assertEqual(session.drive((4, 0), 1), (1, 1, 0, 0))
        self.assertEqual(facts(session), ((1, 1, 0, 0), LOG[:1], 1, LOG[:1], False, 8))
        self.assertEqual(session.drive((1, 1), 0), (2, 0, 0, 0))
        self.assertEqual(facts(session), ((2, 0, 0, 0), LOG, 2, LOG, True, 13))

    def test_each_lateness(self):
        for late in range(5):
            for more in range(5):
                session = Session(WARM, late)
                if more > late:
                    with self.assertRaises(BadMore):
                        session.drive((4, 0), more)
                    self.assertEqual(len(session), 0)
                    continue
                hours = 2 + more
                end = (1, max(0, 4 - hours), max(0, hours - 4), late - more) if hours <= 5 else None
                self.assertEqual(session.drive((4, 0), more), end)
                self.assertEqual(session.state, end)
                self.assertEqual(session.journal, [((4, 0), more)])

    def test_hours_are_spent_over_all_roads(self):
        session = after(((4, 0), 1), late=3)
        for more in (3, 4):
            with self.assertRaises(BadMore):
                session.drive((3, 1), more)
        self.assertEqual(session.drive((3, 1), 2), (2, 0, 0, 0))

    def test_a_pair_that_spoils_the_goods(self):
        session = after(LOG[0])
        self.assertIsNone(session.drive((0, 1), 0))
        self.assertEqual(facts(session), (None, [LOG[0], SPOIL], 2, [LOG[0], SPOIL], False, 8))
        session = Session(LINE, 2)
        self.assertIsNone(session.drive((3, 0), 2))
        self.assertEqual(facts(session), (None, [((3, 0), 2)], 1, [((3, 0), 2)], False, 6))

    def test_no_further_move_behind_it(self):
        session = spoiled()
        before = facts(session)
        for move, more in product(((0, 0), (0, 1), (4, 1), None, "01"), (0, 1, None)):
            with self.assertRaises(Spoiled):
                session.drive(move, more)
            self.assertEqual(facts(session), before)

    def test_spoiled_on_the_way_to_the_goal(self):
        session = after(((4, 0), 0), ((0, 1), 1))
        self.assertEqual((session.state, session.is_there()), (None, False))

    def test_what_spoiled_goods_cost_is_paid(self):
        session = after(LOG[0], ((0, 1), 0))
        self.assertEqual(session.paid(), 8)
        chart = Map(2, ((0, 1, 4, 3),), (9, None), (6, 0))
        self.assertEqual(after(((6, 0), 0), chart=chart, late=0).paid(), 54)
        self.assertEqual(after(((0, 0), 0), chart=chart, late=0).paid(), 0)

    def test_at_the_goal(self):
        session = after(*LOG)
        for move in ((0, 0), (0, 1), None):
            with self.assertRaises(BadMove):
                session.drive(move, 0)
        self.assertEqual(facts(session), facts(after(*LOG)))

    def test_where_no_road_leads_on(self):
        chart = Map(3, ((0, 1, 1, 1), (0, 2, 1, 2)), (1, 1, 1), (4, 0))
        session = after(((4, 0), 0), chart=chart)
        self.assertEqual((session.state, session.is_there()), ((1, 3, 0, 1), False))
        with self.assertRaises(BadMove):
            session.drive((0, 0), 0)

    def test_wrong_moves(self):
        session = after(chart=WARM)
        for move, more in product(NOT_MOVES + ((5, 0), (0, 1)), (0, 1, 9, None)):
            if move == (4, 0):
                continue
            with self.assertRaises(BadMove):
                session.drive(move, more)
            self.assertEqual(facts(session), facts(Session(WARM, 1)))

    def test_wrong_hours(self):
        session = after()
        for move, more in product(((0, 0), (4, 0)), NOT_MORES):
            with self.assertRaises(BadMore):
                session.drive(move, more)
            self.assertEqual(facts(session), facts(Session(LINE, 1)))


class Undo(unittest.TestCase):
    def test_back_to_the_beginning(self):
        session = after(*LOG)
        self.assertEqual(session.undo(), LOG[1])
        self.assertEqual(facts(session), facts(after(LOG[0])))
        self.assertEqual(session.undo(), LOG[0])
        self.assertEqual(facts(session), facts(Session(LINE, 1)))
        for _ in range(2):
            with self.assertRaises(NothingDone):
                session.undo()
            self.assertEqual(facts(session), facts(Session(LINE, 1)))

    def test_at_the_beginning(self):
        for late in range(5):
            with self.assertRaises(NothingDone):
                Session(LINE, late).undo()

    def test_behind_a_pair_that_spoiled_the_goods(self):
        session = spoiled()
        self.assertEqual(session.undo(), SPOIL)
        self.assertEqual(facts(session), facts(after(LOG[0])))
        self.assertEqual(session.drive((1, 1), 0), (2, 0, 0, 0))
        self.assertTrue(session.is_there())

    def test_and_on_again(self):
        session = after(*LOG)
        session.undo()
        session.undo()
        self.assertEqual(session.drive((3, 0), 1), (1, 0, 0, 0))
        self.assertEqual(session.undo(), ((3, 0), 1))
        for move, more in LOG:
            session.drive(move, more)
        self.assertEqual(facts(session), facts(after(*LOG)))


class Journal(unittest.TestCase):
    def test_new_lists(self):
        session = after(*LOG)
        first = session.journal
        first.clear()
        self.assertEqual(session.journal, LOG)
        self.assertIsNot(session.journal, session.journal)
        self.assertIs(type(session.journal), list)
        kept = session.journal
        session.undo()
        self.assertEqual(kept, LOG)

    def test_iteration_anew_each_time(self):
        session = after(*LOG)
        for _ in range(2):
            self.assertEqual(list(session), LOG)
            self.assertEqual([pair for pair in session], LOG)
        one, other = iter(session), iter(session)
        self.assertEqual((next(one), next(one), next(other)), (LOG[0], LOG[1], LOG[0]))
        self.assertTrue(all(type(pair) is tuple and type(pair[0]) is tuple for pair in session))

    def test_nothing_is_set_from_outside(self):
        session = Session(LINE, 1)
        for name in ("state", "journal"):
            with self.assertRaises(AttributeError):
                setattr(session, name, getattr(session, name))


class Branch(unittest.TestCase):
    def test_everything_is_the_same(self):
        for session in (Session(LINE, 1), after(LOG[0]), after(*LOG), spoiled()):
            other = session.branch()
            self.assertIs(type(other), Session)
            self.assertIsNot(other, session)
            self.assertEqual(facts(other), facts(session))

    def test_independent_on_both_sides(self):
        session = after(LOG[0])
        other = session.branch()
        session.drive(*LOG[1])
        self.assertEqual(facts(other), facts(after(LOG[0])))
        other.drive(*SPOIL)
        self.assertEqual(facts(session), facts(after(*LOG)))
        self.assertEqual(facts(other), facts(spoiled()))
        other.undo()
        other.undo()
        self.assertEqual(facts(other), facts(Session(LINE, 1)))
        self.assertEqual(facts(session), facts(after(*LOG)))
        session.undo()
        third = session.branch().branch()
        self.assertEqual(facts(third), facts(after(LOG[0])))

    def test_of_a_session_with_spoiled_goods(self):
        other = spoiled().branch()
        with self.assertRaises(Spoiled):
            other.drive((0, 1), 0)
        self.assertEqual(other.undo(), SPOIL)
        self.assertEqual(other.drive((1, 1), 0), (2, 0, 0, 0))

    def test_within_a_trial(self):
        session = after(LOG[0])
        with session.trial():
            session.drive(*LOG[1])
            other = session.branch()
            session.undo()
            with self.assertRaises(NothingDone):
                session.undo()
            # The branch is in no trial.
            self.assertEqual([other.undo(), other.undo()], [LOG[1], LOG[0]])
            with self.assertRaises(NothingDone):
                other.undo()
            other.drive((3, 0), 0)
        self.assertEqual(facts(other), facts(after(((3, 0), 0))))
        self.assertEqual(facts(session), facts(after(LOG[0])))

    def test_trials_of_a_branch(self):
        session = after(LOG[0])
        with session.trial():
            other = session.branch()
            with other.trial() as inner:
                self.assertIs(inner, other)
                inner.drive(*LOG[1])
                session.drive(*SPOIL)
            self.assertEqual(facts(other), facts(after(LOG[0])))
            self.assertEqual(facts(session), facts(spoiled()))
        self.assertEqual(facts(session), facts(after(LOG[0])))


class Trials(unittest.TestCase):
    def test_left_in_order(self):
        session = after(LOG[0])
        with session.trial() as inner:
            self.assertIs(inner, session)
            self.assertEqual(facts(inner), facts(after(LOG[0])))
            inner.drive(*LOG[1])
            self.assertEqual(facts(session), facts(after(*LOG)))
        self.assertEqual(facts(session), facts(after(LOG[0])))
        self.assertEqual(session.undo(), LOG[0])

    def test_left_by_an_error_of_any_class(self):
        for error in (Failure, Told, ValueError, KeyError, CoolError, BadMove, NothingDone, GeneratorExit, KeyboardInterrupt):
            session, raised = after(LOG[0]), error("words")
            with self.assertRaises(error) as caught:
                with session.trial():
                    session.drive(*LOG[1])
                    raise raised
            self.assertIs(caught.exception, raised)
            self.assertEqual(facts(session), facts(after(LOG[0])))
            self.assertEqual(session.undo(), LOG[0])

    def test_left_by_an_error_of_its_own(self):
        session = after(LOG[0])
        with self.assertRaises(BadMore):
            with session.trial() as inner:
                inner.drive((1, 1), 0)
                inner.undo()
                inner.drive((1, 1), 1)
        self.assertEqual(facts(session), facts(after(LOG[0])))

    def test_left_by_a_return_or_a_break(self):
        session = after(LOG[0])

        def work():
            with session.trial():
                session.drive(*SPOIL)
                return session.state

        self.assertIsNone(work())
        for _ in range(3):
            with session.trial():
                session.drive(*LOG[1])
                break
        self.assertEqual(facts(session), facts(after(LOG[0])))

    def test_within_one_another(self):
        session = Session(LINE, 1)
        with session.trial() as outer:
            outer.drive(*LOG[0])
            with session.trial() as middle:
                middle.drive(*LOG[1])
                with session.trial() as inner:
                    self.assertIs(inner, session)
                    with self.assertRaises(NothingDone):
                        inner.undo()
                self.assertEqual(facts(session), facts(after(*LOG)))
                self.assertEqual(middle.undo(), LOG[1])
                with self.assertRaises(NothingDone):
                    middle.undo()
                middle.drive(*SPOIL)
            self.assertEqual(facts(session), facts(after(LOG[0])))
            self.assertEqual(outer.undo(), LOG[0])
            with self.assertRaises(NothingDone):
                outer.undo()
        self.assertEqual(facts(session), facts(Session(LINE, 1)))

    def test_an_error_that_leaves_only_the_inner_one(self):
        session = Session(LINE, 1)
        with session.trial():
            session.drive(*LOG[0])
            with self.assertRaises(Failure):
                with session.trial():
                    session.drive(*LOG[1])
                    raise Failure
            self.assertEqual(facts(session), facts(after(LOG[0])))
            self.assertEqual(session.undo(), LOG[0])
        self.assertEqual(facts(session), facts(Session(LINE, 1)))

    def test_pairs_before_a_trial_cannot_be_taken_back(self):
        session = after(*LOG)
        with session.trial():
            with self.assertRaises(NothingDone):
                session.undo()
            self.assertEqual(facts(session), facts(after(*LOG)))
        session.undo()
        with session.trial():
            session.drive(*SPOIL)
            self.assertEqual(session.undo(), SPOIL)
            session.drive(*LOG[1])
            self.assertEqual(session.undo(), LOG[1])
            with self.assertRaises(NothingDone):
                session.undo()
        self.assertEqual(facts(session), facts(after(LOG[0])))

    def test_when_the_goods_are_spoiled_already(self):
        session = spoiled()
        with session.trial():
            with self.assertRaises(Spoiled):
                session.drive(*LOG[1])
            with self.assertRaises(NothingDone):
                session.undo()
        self.assertEqual(facts(session), facts(spoiled()))

    def test_nothing_done_in_it(self):
        session = after(LOG[0])
        with session.trial():
            pass
        self.assertEqual(facts(session), facts(after(LOG[0])))

    def test_blocks_that_are_not_left_in_order(self):
        session = Session(LINE, 1)

        def steps():
            with session.trial():
                session.drive(*LOG[1])
                yield

        with session.trial():
            session.drive(*LOG[0])
            inner = steps()
            next(inner)
            self.assertEqual(facts(session), facts(after(*LOG)))
        self.assertEqual(facts(session), facts(Session(LINE, 1)))
        # The inner block ends only now, and then everything is as at its own beginning.
        inner.close()
        self.assertEqual(facts(session), facts(after(LOG[0])))

    def test_it_begins_with_its_block(self):
        session = Session(LINE, 1)
        block = session.trial()
        session.drive(*LOG[0])
        with block:
            session.drive(*LOG[1])
        self.assertEqual(facts(session), facts(after(LOG[0])))
        session.undo()
        with block, block as inner:
            inner.drive(*LOG[0])
            with block:
                inner.drive(*LOG[1])
            self.assertEqual(facts(session), facts(after(LOG[0])))
        self.assertEqual(facts(session), facts(Session(LINE, 1)))


class Attempt(unittest.TestCase):
    def test_what_the_function_returns(self):
        session = after(LOG[0])
        for value in (None, 7, [1], "words", session):
            self.assertIs(session.attempt(lambda inner: value), value)
        self.assertEqual(session.attempt(lambda inner: inner.drive(*LOG[1])), (2, 0, 0, 0))
        self.assertEqual(facts(session), facts(after(LOG[0])))

    def test_it_is_called_once_with_the_session(self):
        session, calls = after(LOG[0]), []
        session.attempt(calls.append)
        self.assertEqual(len(calls), 1)
        self.assertIs(calls[0], session)

    def test_a_function_that_raises_an_error(self):
        for error in (Failure, Told, ValueError, NothingDone, StopIteration):
            session, raised = after(LOG[0]), error("words")

            def work(inner):
                inner.drive(*SPOIL)
                raise raised

            with self.assertRaises(error) as caught:
                session.attempt(work)
            self.assertIs(caught.exception, raised)
            self.assertEqual(facts(session), facts(after(LOG[0])))
            self.assertEqual(session.undo(), LOG[0])

    def test_only_its_own_pairs_can_be_taken_back(self):
        session = after(LOG[0])
        with self.assertRaises(NothingDone):
            session.attempt(Session.undo)
        self.assertEqual(facts(session), facts(after(LOG[0])))

    def test_a_function_that_uses_trials(self):
        session = Session(LINE, 1)

        def work(inner):
            inner.drive(*LOG[0])
            with inner.trial():
                inner.drive(*SPOIL)
            found = [inner.attempt(lambda again: again.drive(*LOG[1])), inner.state, inner.tried(LOG[1:])]
            return found + [inner.undo()]

        self.assertEqual(session.attempt(work), [(2, 0, 0, 0), (1, 1, 0, 0), [(2, 0, 0, 0)], LOG[0]])
        self.assertEqual(facts(session), facts(Session(LINE, 1)))
        with session.trial():
            session.drive(*LOG[0])
            self.assertEqual(session.attempt(lambda inner: inner.drive(*LOG[1])), (2, 0, 0, 0))
            self.assertEqual(facts(session), facts(after(LOG[0])))


class Tried(unittest.TestCase):
    def refuse(self, session, index, log):
        before = facts(session)
        with self.assertRaises(BadLog) as caught:
            session.tried(log)
        self.assertEqual(caught.exception.index, index, log)
        self.assertIs(type(caught.exception.index), type(index))
        self.assertEqual(facts(session), before)

    def test_logs_that_are_right(self):
        session = Session(LINE, 1)
        for log in (LOG, tuple(LOG)):
            self.assertEqual(session.tried(log), [(1, 1, 0, 0), (2, 0, 0, 0)])
            self.assertEqual(session.tried(log[:1]), [(1, 1, 0, 0)])
            self.assertEqual(session.tried(log[:0]), [])
        self.assertEqual(facts(session), facts(Session(LINE, 1)))
        session = after(LOG[0])
        self.assertEqual(session.tried(LOG[1:]), [(2, 0, 0, 0)])
        self.assertEqual(facts(session), facts(after(LOG[0])))
        self.assertEqual(after(*LOG).tried([]), [])

    def test_new_lists(self):
        session, log = Session(LINE, 1), list(LOG)
        session.tried(log).clear()
        self.assertEqual(session.tried(log), [(1, 1, 0, 0), (2, 0, 0, 0)])
        self.assertIsNot(session.tried([]), session.tried([]))
        self.assertEqual(log, LOG)

    def test_no_list_or_tuple_or_too_long(self):
        for log in NOT_LOGS:
            for session in (Session(LINE, 1), after(*LOG), spoiled()):
                self.refuse(session, None, log)

    def test_wrong_at_each_index(self):
        session = Session(LINE, 1)
        for pair in NOT_PAIRS:
            self.refuse(session, 0, [pair])
            self.refuse(session, 0, (pair, *LOG))
        for pair in (None, SPOIL, ((1, 1), 1), ((4, 1), 0), LOG[0]):
            self.refuse(session, 1, [LOG[0], pair])
            self.refuse(session, 1, (LOG[0], pair, None))
        self.refuse(session, 2, LOG + [None] * 10)
        self.refuse(session, None, LOG + [None] * 11)
        self.refuse(after(LOG[0]), 0, LOG)
        self.refuse(after(LOG[0]), 1, LOG[1:] + LOG[1:])
        self.refuse(after(*LOG), 0, LOG)

    def test_when_the_goods_are_spoiled_already(self):
        session = spoiled()
        for log in ([], ()):
            self.assertEqual(session.tried(log), [])
        for log in (LOG, LOG[1:], [None], (None,) * 12, [SPOIL]):
            self.refuse(session, 0, log)
        for log in ([None] * 13, (LOG[1],) * 13, None, {}):
            self.refuse(session, None, log)

    def test_within_trials(self):
        session = after(LOG[0])
        with session.trial():
            self.assertEqual(session.tried(LOG[1:]), [(2, 0, 0, 0)])
            session.drive(*LOG[1])
            self.refuse(session, 0, LOG)
            self.assertEqual(session.undo(), LOG[1])
            with self.assertRaises(NothingDone):
                session.undo()
        self.assertEqual(facts(session), facts(after(LOG[0])))


class Model:
    """What a session should be, with the states worked out anew from the journal each time."""

    def __init__(self, parts, late):
        self.parts, self.late, self.pairs, self.floor = parts, late, [], 0

    def states(self):
        states = [(0, 0, 0, self.late)]
        for move, more in self.pairs:
            states.append(own_result(self.parts, states[-1], move, more))
        return states

    def facts(self):
        states = self.states()
        paid = sum(own_cost(self.parts, state, move) for state, (move, _) in zip(states, self.pairs))
        there = states[-1] is not None and states[-1][0] == self.parts[0] - 1
        return states[-1], list(self.pairs), len(self.pairs), list(self.pairs), there, paid


class Walks(unittest.TestCase):
    """Long walks by chance, compared with the model after each step."""

    def step(self, chance, session, model, deep):
        kind = chance.randrange(10)
        if kind < 4:
            self.drive(chance, session, model)
        elif kind < 6:
            self.undo(session, model)
        elif kind < 7:
            other, twin = session.branch(), Model(model.parts, model.late)
            twin.pairs = list(model.pairs)
            self.walk(chance, other, twin, 3, deep + 1)
        elif deep < 4:
            pairs, floor = list(model.pairs), model.floor
            model.floor = len(pairs)
            if kind < 9:
                with session.trial() as inner:
                    self.walk(chance, inner, model, 4, deep + 1)
            else:
                with self.assertRaises(Failure):
                    session.attempt(lambda inner: self.broken(chance, inner, model, deep + 1))
            model.pairs, model.floor = pairs, floor
        self.assertEqual(facts(session), model.facts())

    def broken(self, chance, session, model, deep):
        self.walk(chance, session, model, 4, deep)
        raise Failure

    def drive(self, chance, session, model):
        state = model.states()[-1]
        if state is None:
            with self.assertRaises(Spoiled):
                session.drive((0, 0), 0)
            return
        ways = own_moves(model.parts, state)
        if not ways:
            with self.assertRaises(BadMove):
                session.drive((0, 0), 0)
            return
        move, more = chance.choice(ways + ways[-1:] * 6), chance.randint(0, state[3])
        self.assertEqual(session.drive(move, more), own_result(model.parts, state, move, more))
        model.pairs.append((move, more))

    def undo(self, session, model):
        if len(model.pairs) == model.floor:
            with self.assertRaises(NothingDone):
                session.undo()
        else:
            self.assertEqual(session.undo(), model.pairs.pop())

    def walk(self, chance, session, model, steps, deep=0):
        for _ in range(steps):
            self.step(chance, session, model, deep)

    def test_many(self):
        chance = random.Random(91)
        for parts in many_parts(92, 60) + list(BOUNDS):
            late = chance.randrange(5)
            self.walk(chance, Session(Map(*parts), late), Model(parts, late), 30)


class Sessions(unittest.TestCase):
    def test_two_sessions_of_one_map(self):
        one, other = Session(LINE, 1), Session(LINE, 1)
        one.drive(*LOG[0])
        self.assertEqual(facts(other), facts(Session(LINE, 1)))
        self.assertEqual(LINE, Map(3, ((0, 1, 2, 1), (1, 2, 2, 1)), (2, 5, None), (4, 0)))

    def test_keywords(self):
        session = Session(chart=LINE, late=1)
        self.assertEqual(session.drive(move=(4, 0), more=1), (1, 1, 0, 0))
        self.assertEqual(session.tried(log=LOG[1:]), [(2, 0, 0, 0)])
        self.assertEqual(session.attempt(work=len), 1)


class Wrong(unittest.TestCase):
    def test_no_map(self):
        for chart, late in product(NOT_MAPS, (0, 4, 5, None)):
            with self.assertRaises(BadMap) as caught:
                Session(chart, late)
            self.assertIsNone(caught.exception.part)

    def test_no_lateness(self):
        for late in NOT_LATENESSES:
            with self.assertRaises(BadLateness):
                Session(LINE, late)

    def test_the_order_of_the_errors_of_drive(self):
        with self.assertRaises(Spoiled):
            spoiled().drive(None, None)
        for move, more in product((None, (5, 0), (0, 1), (True, 0)), (None, 2, True, 0)):
            with self.assertRaises(BadMove):
                Session(LINE, 1).drive(move, more)
        for more in NOT_MORES:
            with self.assertRaises(BadMore):
                Session(LINE, 1).drive((0, 0), more)


if __name__ == "__main__":
    unittest.main()
