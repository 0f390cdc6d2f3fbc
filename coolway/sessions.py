"""Sessions: moves that are made one after the other, taken back, and tried out."""

from coolway.errors import BadMore, NothingDone, Spoiled
from coolway.kinds import is_between
from coolway.logs import states_after
from coolway.maps import check_lateness, check_map, check_move
from coolway.rules import first_state, is_done, move_cost, move_results


class Moment:
    """All pairs of a session so far, the states before and after them, and the moment when the trial began."""

    def __init__(self, states, pairs, begin):
        # Moments never change, so a trial needs only to keep the one at which it began.
        self.states = states
        self.pairs = pairs
        self.begin = begin


class Kept:
    """The moment at which a with-block began, and what was kept before, if the same trial is used within itself."""

    def __init__(self, moment, outer):
        self.moment = moment
        self.outer = outer


class Trial:
    """A with-block at whose end a session is as at its beginning."""

    def __init__(self, session):
        self.session = session
        self.kept = None

    def __enter__(self):
        session = self.session
        now = session._now
        self.kept = Kept(now, self.kept)
        session._now = Moment(now.states, now.pairs, now)
        return session

    def __exit__(self, kind, value, trace):
        session = self.session
        session._now = self.kept.moment
        self.kept = self.kept.outer


class Session:
    """Goods on their way over a map, with a journal of the moves and of how late their roads were."""

    def __init__(self, chart, late):
        check_map(chart)
        check_lateness(late)
        self._chart = chart
        self._now = Moment((first_state(late),), (), None)

    @property
    def state(self):
        """The state now, None if the goods are spoiled."""
        return self._now.states[-1]

    @property
    def journal(self):
        """The list of the pairs so far."""
        return list(self._now.pairs)

    def __len__(self):
        return len(self._now.pairs)

    def __iter__(self):
        return iter(self._now.pairs)

    def is_there(self):
        """Return whether the goods are at the goal, unspoiled."""
        return self.state is not None and is_done(self._chart, self.state)

    def paid(self):
        """Return what all moves of the journal cost together."""
        now = self._now
        return sum([move_cost(self._chart, state, pair[0]) for state, pair in zip(now.states, now.pairs)])

    def drive(self, move, more):
        """Make a move whose road is so many hours late, and return the state after it, None if the goods spoil."""
        now, state = self._now, self.state
        if state is None:
            raise Spoiled("the goods are spoiled already")
        check_move(self._chart, state, move)
        if not is_between(more, 0, state[3]):
            raise BadMore("not as many hours as may still be late")
        end = move_results(self._chart, state, move)[more]
        self._now = Moment(now.states + (end,), now.pairs + ((move, more),), now.begin)
        return end

    def undo(self):
        """Take back the last pair, and return it."""
        now = self._now
        kept = 0 if now.begin is None else len(now.begin.pairs)
        if len(now.pairs) == kept:
            raise NothingDone("there is nothing to take back")
        self._now = Moment(now.states[:-1], now.pairs[:-1], now.begin)
        return now.pairs[-1]

    def branch(self):
        """Return an independent session in which everything is the same, and all pairs can be taken back."""
        now = self._now
        other = Session(self._chart, now.states[0][3])
        other._now = Moment(now.states, now.pairs, None)
        return other

    def trial(self):
        """Return a with-block that gives this session, and leaves it as it was at the beginning of the block."""
        return Trial(self)

    def attempt(self, work):
        """Call a function with this session in a trial, and return what it returns."""
        with self.trial() as inner:
            return work(inner)

    def tried(self, log):
        """Return the list of the states after the moves of a log, as if they were made in a trial."""
        return states_after(self._chart, self.state, log)
