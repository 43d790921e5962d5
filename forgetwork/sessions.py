"""Sessions: a play that goes on pair by pair, with undoing, branches and trials."""

from forgetwork.errors import BadAnswer, BadWish, NothingDone
from forgetwork.logs import end_of, spent, work_to, works_of
from forgetwork.play import check_position, is_wish


class Moment:
    """What a session was when a trial began, and the moment before if that trial had begun already, or None."""

    def __init__(self, pairs, fixed, outer):
        self.pairs = pairs
        self.fixed = fixed
        self.outer = outer


class Trial:
    """A with-block at whose end its session is as at its beginning."""

    def __init__(self, session):
        self.session = session
        self.moment = None

    def __enter__(self):
        session = self.session
        self.moment = Moment(session._pairs, session._fixed, self.moment)
        session._fixed = len(session._pairs)
        return session

    def __exit__(self, kind, value, trace):
        session = self.session
        session._pairs = self.moment.pairs
        session._fixed = self.moment.fixed
        self.moment = self.moment.outer


class Session:
    """A position of a play, and the journal of the wishes and answers that led to it."""

    def __init__(self, archive, room, delay, position):
        check_position(archive, room, delay, position)
        self._archive = archive
        self._room = room
        self._delay = delay
        self._start = position
        # The pairs are a tuple, so that trials and branches can share it: it is replaced, never changed.
        self._pairs = ()
        # So many pairs were there before the innermost trial, in which they cannot be undone.
        self._fixed = 0

    @property
    def position(self):
        """The position after the journal."""
        return end_of(self._start, self._pairs)

    @property
    def journal(self):
        """The log so far, a new list."""
        return list(self._pairs)

    def __iter__(self):
        return iter(self._pairs)

    def __len__(self):
        return len(self._pairs)

    def play(self, wish, later):
        """Play a wish and the answer that leads to this position, and return the work."""
        place = self.position
        if not is_wish(place, wish):
            raise BadWish("not a wish that is possible now")
        cost = work_to(self._archive, self._room, self._delay, place, wish, later)
        if cost is None:
            raise BadAnswer("no answer leads to this position")
        self._pairs = self._pairs + ((wish, later),)
        return cost

    def work(self):
        """The sum of the works of the journal."""
        return sum(works_of(self._archive, self._room, self._delay, self._start, self._pairs))

    def undo(self):
        """Take back the last pair, and return it."""
        if len(self._pairs) == self._fixed:
            raise NothingDone("there is no pair that can be undone")
        pair = self._pairs[-1]
        self._pairs = self._pairs[:-1]
        return pair

    def branch(self):
        """An independent session with the same journal, in which all pairs can be undone."""
        other = Session(self._archive, self._room, self._delay, self._start)
        other._pairs = self._pairs
        return other

    def trial(self):
        """A with-block that gives this session, and at whose end it is as at its beginning."""
        return Trial(self)

    def tried(self, log):
        """The list of the works of a log from here, which leaves the session as it is, as a trial does."""
        return spent(self._archive, self._room, self._delay, self.position, log)
