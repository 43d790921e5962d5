"""Logs: pairs of a wish and the position after an answer to it, one after the other."""

from forgetwork.errors import BadLog
from forgetwork.play import check_position, is_position, is_wish, possible_answers

MOST_PAIRS = 12


def work_to(archive, room, delay, position, wish, later):
    """The work of the answer to a wish that leads to this position, or None if no answer does."""
    # Booleans equal integers in Python, so that the form is asked for before the positions are compared.
    if not is_position(archive, room, delay, later):
        return None
    for cost, place in possible_answers(archive, room, delay, position, wish):
        if place == later:
            return cost
    return None


def work_of_item(archive, room, delay, position, item):
    """The work of an item of a log at a position, or None if it is no pair that is possible there."""
    if not isinstance(item, tuple) or len(item) != 2:
        return None
    wish, later = item
    if not is_wish(position, wish):
        return None
    return work_to(archive, room, delay, position, wish, later)


def works_of(archive, room, delay, position, log):
    """The list of the works of the items of a list or tuple; BadLog if one is no pair that is possible then."""
    found = []
    place = position
    for index in range(len(log)):
        cost = work_of_item(archive, room, delay, place, log[index])
        if cost is None:
            raise BadLog(index)
        found.append(cost)
        place = log[index][1]
    return found


def end_of(position, log):
    """The position after a log that is right."""
    if not log:
        return position
    return log[-1][1]


def spent(archive, room, delay, position, log):
    """The list of the works of the answers of a log."""
    check_position(archive, room, delay, position)
    if not isinstance(log, (list, tuple)) or len(log) > MOST_PAIRS:
        raise BadLog(None)
    return works_of(archive, room, delay, position, log)


def after_log(archive, room, delay, position, log):
    """The position after a log."""
    spent(archive, room, delay, position, log)
    return end_of(position, log)


def asked(archive, room, delay, position, log):
    """The ascending tuple of the people that were wished in a log."""
    spent(archive, room, delay, position, log)
    return tuple(sorted([wish for wish, _ in log if wish is not None]))
