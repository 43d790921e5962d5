"""What the document says, in plain words of Python, to compare the program with."""

from itertools import permutations

from tests.common import subsets


def plain_base(build, people):
    order, kept = build
    return max(length for length in (0,) + kept if not set(order[:length]) & set(people))


def plain_work(archive, build, people):
    base = plain_base(build, people)
    return sum(archive.sizes[person] for person in set(build[0][base:]) - set(people))


def plain_after(room, build, people):
    """All builds of the people who are left, less those that point [3] does not allow."""
    order, kept = build
    base = plain_base(build, people)
    found = []
    for again in permutations(set(order) - set(people)):
        for lengths in subsets(range(1, len(again)), max(0, len(again) - 1)):
            reached = all(length > base or length in kept for length in lengths)
            if again[:base] == order[:base] and reached and len(lengths) <= room:
                found.append((again, lengths))
    return sorted(found)


def plain_wishes(position):
    order, _, waiting, ticks = position
    if ticks > 0:
        return sorted(set(order) - set(dict(waiting))) + [None]
    return [None] * min(1, len(waiting))


def plain_answers(archive, room, delay, position, wish):
    """All positions at the next tick, less those that point [4] does not allow."""
    order, kept, waiting, ticks = position
    pending = dict(waiting)
    if wish is not None:
        pending[wish] = delay
    ticks_after = ticks - 1 if ticks else 0
    found = []
    if ticks and 0 not in pending.values():
        one_less = tuple((person, pending[person] - 1) for person in sorted(pending))
        found.append((0, (order, kept, one_less, ticks_after)))
    if pending:
        base = max(length for length in (0,) + kept if not set(order[:length]) & set(pending))
        cost = sum(archive.sizes[person] for person in order[base:] if person not in pending)
        left = sorted(set(order) - set(pending))
        lengths = [length for length in range(1, len(left)) if length in kept or length > base]
        found.extend([(cost, (again, some, (), ticks_after)) for again in permutations(left)
                      for some in sorted(subsets(lengths, room)) if again[:base] == order[:base]])
    return found
