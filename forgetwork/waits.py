"""What waiting is worth: the best build for each delay."""

from forgetwork.archives import check_archive, check_few, check_room
from forgetwork.choices import choose
from forgetwork.evidence import copied, just_enough
from forgetwork.kinds import is_integer
from forgetwork.play import MOST_DELAY, check_ticks


class Waits:
    """The best builds, each a Choice, by their delays."""

    def __init__(self, rows):
        self.rows = copied(rows)

    def __iter__(self):
        return iter(self.rows.items())

    def __eq__(self, other):
        return isinstance(other, Waits) and self.rows == other.rows

    def shows(self, archive, room, ticks):
        """Whether there is a Choice for exactly the delays, and each proves its build."""
        check_waiting(archive, room, ticks)
        if not all([is_integer(delay) for delay in self.rows]) or sorted(self.rows) != all_delays():
            return False
        return all([self.rows[delay].shows(archive, room, delay, ticks) for delay in self.rows])


def check_waiting(archive, room, ticks):
    """Raise the error of the first of these arguments that is wrong."""
    check_archive(archive)
    check_room(room)
    check_ticks(ticks)


def all_delays():
    """The ascending list of all delays."""
    return list(range(MOST_DELAY + 1))


def waits(archive, room, ticks):
    """The best build for each delay, a Waits."""
    check_waiting(archive, room, ticks)
    check_few(archive)
    return Waits({delay: choose(archive, room, delay, ticks) for delay in all_delays()})


def delay_pairs(archive, room, ticks):
    """The list of all pairs of a delay and a bound that are just enough, by ascending delays."""
    return just_enough([(delay, choice.bound) for delay, choice in waits(archive, room, ticks)])
