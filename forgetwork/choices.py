"""The best build of all people, with evidence, and the pairs of a room and a bound that are just enough."""

from forgetwork.archives import builds, check_archive, check_few
from forgetwork.evidence import are_floors, are_heights, copied, just_enough, least_from
from forgetwork.forgetting import is_build
from forgetwork.kinds import is_integer
from forgetwork.play import Play, check_delay, check_play, check_ticks, start_of


class Choice:
    """A build, its bound, heights from its position, and floors from the positions of all builds."""

    def __init__(self, build, bound, heights, floors):
        self.build = build
        self.bound = bound
        self.heights = copied(heights)
        self.floors = copied(floors)

    def __eq__(self, other):
        return (isinstance(other, Choice) and self.build == other.build and self.bound == other.bound
                and self.heights == other.heights and self.floors == other.floors)

    def shows(self, archive, room, delay, ticks):
        """Whether the heights and floors prove that this is a build with the least bound."""
        check_choosing(archive, room, delay, ticks)
        if not is_integer(self.bound) or not is_whole_build(archive, room, self.build):
            return False
        play = Play(archive, room, delay)
        starts = [start_of(build, ticks) for build in builds(archive, room)]
        return (are_heights(play, self.heights, start_of(self.build, ticks), self.bound)
                and are_floors(play, self.floors, starts, self.bound))


def check_choosing(archive, room, delay, ticks):
    """Raise the error of the first of these arguments that is wrong."""
    check_play(archive, room, delay)
    check_ticks(ticks)


def is_whole_build(archive, room, build):
    """Whether this is a build of all people."""
    return is_build(archive, room, build) and len(build[0]) == len(archive)


def choose(archive, room, delay, ticks):
    """The first build of those with the least bound, a Choice."""
    check_choosing(archive, room, delay, ticks)
    check_few(archive)
    play = Play(archive, room, delay)
    known = {}
    found = builds(archive, room)
    bounds = [least_from(play, start_of(build, ticks), known) for build in found]
    bound = min(bounds)
    return Choice(found[bounds.index(bound)], bound, known, known)


def best_work(archive, room, delay, ticks):
    """The least bound of all builds of all people."""
    return choose(archive, room, delay, ticks).bound


def least_pairs(archive, delay, ticks):
    """The list of all pairs of a room and a bound that are just enough, by ascending rooms."""
    check_archive(archive)
    check_delay(delay)
    check_ticks(ticks)
    check_few(archive)
    return just_enough([(room, best_work(archive, room, delay, ticks)) for room in range(len(archive))])
