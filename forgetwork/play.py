"""The play of an asker and a builder: the wishes at a position, and the answers to them."""

from forgetwork.archives import check_archive, check_room
from forgetwork.errors import BadDelay, BadPosition, BadTicks, BadWish
from forgetwork.forgetting import builds_after, forgetting_work, is_build
from forgetwork.kinds import is_ascending, is_integer, is_within

MOST_DELAY = 2
MOST_TICKS = 4


def check_delay(delay):
    """Raise BadDelay if this is not a delay."""
    if not is_within(delay, 0, MOST_DELAY):
        raise BadDelay("a delay is an integer from 0 to 2")


def check_ticks(ticks):
    """Raise BadTicks if this is not a number of ticks."""
    if not is_within(ticks, 0, MOST_TICKS):
        raise BadTicks("ticks are an integer from 0 to 4")


def check_play(archive, room, delay):
    """Raise the error of the first of these arguments that is wrong."""
    check_archive(archive)
    check_room(room)
    check_delay(delay)


def is_waiting_wish(order, delay, pair):
    """Whether this is a pair of a person of the order and how many ticks the wish can still wait."""
    if not isinstance(pair, tuple) or len(pair) != 2:
        return False
    person, left = pair
    return is_integer(person) and person in order and is_within(left, 0, delay - 1)


def are_waiting_wishes(order, delay, waiting):
    """Whether these are wishes that can wait together."""
    if not isinstance(waiting, tuple) or not all([is_waiting_wish(order, delay, pair) for pair in waiting]):
        return False
    return is_ascending([person for person, _ in waiting]) and is_ascending(sorted([left for _, left in waiting]))


def is_position(archive, room, delay, position):
    """Whether this is a position for the archive, the room and the delay."""
    if not isinstance(position, tuple) or len(position) != 4:
        return False
    order, kept, waiting, ticks = position
    if not is_build(archive, room, (order, kept)) or not is_within(ticks, 0, MOST_TICKS):
        return False
    return are_waiting_wishes(order, delay, waiting)


def check_position(archive, room, delay, position):
    """Raise the error of the first of these arguments that is wrong."""
    check_play(archive, room, delay)
    if not is_position(archive, room, delay, position):
        raise BadPosition("a position is a quadruple of an order, kept lengths, waiting wishes and ticks")


def possible_wishes(position):
    """The list of all wishes at a position that is right."""
    order, _, waiting, ticks = position
    if ticks == 0:
        return [None] if waiting else []
    already = [person for person, _ in waiting]
    return [person for person in sorted(order) if person not in already] + [None]


def is_wish(position, wish):
    """Whether the wish is possible at a position that is right."""
    return (wish is None or is_integer(wish)) and wish in possible_wishes(position)


def pending_wishes(delay, position, wish):
    """The waiting wishes of a position, with the new one, if it is one."""
    waiting = position[2]
    if wish is None:
        return waiting
    return tuple(sorted([*waiting, (wish, delay)]))


def possible_answers(archive, room, delay, position, wish):
    """The list of all answers to a wish, for arguments that are right."""
    order, kept, _, ticks = position
    pending = pending_wishes(delay, position, wish)
    later = max(0, ticks - 1)
    found = []
    if ticks > 0 and all([left > 0 for _, left in pending]):
        found.append((0, (order, kept, tuple([(person, left - 1) for person, left in pending]), later)))
    if pending:
        people = tuple([person for person, _ in pending])
        cost = forgetting_work(archive, (order, kept), people)
        for rest, choice in builds_after(room, (order, kept), people):
            found.append((cost, (rest, choice, (), later)))
    return found


def start_of(build, ticks):
    """The position of a build without waiting wishes."""
    order, kept = build
    return (order, kept, (), ticks)


class Play:
    """The play with one archive, room and delay, as forgetwork.evidence wants it."""

    def __init__(self, archive, room, delay):
        self.archive = archive
        self.room = room
        self.delay = delay

    def has(self, place):
        """Whether this is a position of this play."""
        return is_position(self.archive, self.room, self.delay, place)

    def moves(self, place):
        """For each wish at a position that is right, the list of all answers to it."""
        return [possible_answers(self.archive, self.room, self.delay, place, wish) for wish in possible_wishes(place)]


def wishes(archive, room, delay, position):
    """The list of all wishes at a position: people ascending, then None; none if the play is over."""
    check_position(archive, room, delay, position)
    return possible_wishes(position)


def answers(archive, room, delay, position, wish):
    """The list of the work and the position after each answer to a wish: waiting first."""
    check_position(archive, room, delay, position)
    if not is_wish(position, wish):
        raise BadWish("not a wish that is possible at this position")
    return possible_answers(archive, room, delay, position, wish)
