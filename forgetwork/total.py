"""The least work that is surely enough from one position, with heights and floors that prove it."""

from forgetwork.errors import TooLarge
from forgetwork.evidence import are_floors, are_heights, comes_to_more, copied, least_from
from forgetwork.forgetting import check_build
from forgetwork.kinds import is_integer
from forgetwork.play import Play, check_play, check_position, check_ticks, start_of

MOST_POSITIONS = 500


class Total:
    """A bound, heights for the builder who needs no more, and floors for the asker who makes it necessary."""

    def __init__(self, bound, heights, floors):
        self.bound = bound
        self.heights = copied(heights)
        self.floors = copied(floors)

    def __eq__(self, other):
        return (isinstance(other, Total) and self.bound == other.bound and self.heights == other.heights
                and self.floors == other.floors)

    def shows(self, archive, room, delay, position):
        """Whether the heights and floors prove that the bound is the least work that is surely enough."""
        check_position(archive, room, delay, position)
        play = Play(archive, room, delay)
        return (is_integer(self.bound) and are_heights(play, self.heights, position, self.bound)
                and are_floors(play, self.floors, [position], self.bound))


def begin(archive, room, delay, build, ticks):
    """The position of a build without waiting wishes."""
    check_play(archive, room, delay)
    check_build(archive, room, build)
    check_ticks(ticks)
    return start_of(build, ticks)


def total(archive, room, delay, position):
    """The least work that is surely enough from a position, a Total."""
    check_position(archive, room, delay, position)
    play = Play(archive, room, delay)
    if comes_to_more(play, position, MOST_POSITIONS):
        raise TooLarge("more than 500 positions can come about")
    known = {}
    bound = least_from(play, position, known)
    return Total(bound, known, known)


def least_work(archive, room, delay, position):
    """The bound of the least work that is surely enough from a position."""
    return total(archive, room, delay, position).bound
