"""Shards: the people in several builds, and the fewest builds for which a bound of work is surely enough."""

from forgetwork.archives import builds_of, check_archive, check_few, check_room, people_of
from forgetwork.errors import BadBound, BadSplit
from forgetwork.evidence import are_floors, are_heights, copied, least_from
from forgetwork.forgetting import builds_after, forgetting_work, is_build
from forgetwork.kinds import is_tuple_within, is_within
from forgetwork.play import MOST_TICKS, check_ticks

MOST_BOUND = 20


class Divide:
    """A split, builds of it, heights that prove the bound for them, and doubts of the splits with fewer shards."""

    def __init__(self, split, builds, heights, doubts):
        self.split = split
        self.builds = builds
        self.heights = copied(heights)
        self.doubts = {other: copied(doubts[other]) for other in doubts}

    def __iter__(self):
        return iter(self.doubts.items())

    def __eq__(self, other):
        return (isinstance(other, Divide) and self.split == other.split and self.builds == other.builds
                and self.heights == other.heights and self.doubts == other.doubts)

    def shows(self, archive, room, ticks, bound):
        """Whether the heights prove the bound for the builds, and the doubts that fewer shards are not enough."""
        check_dividing(archive, room, ticks, bound)
        start = (self.builds, ticks)
        if not is_split(archive, self.split) or not is_beginning(archive, room, self.split, start):
            return False
        if not are_heights(Shards(archive, room, self.split), self.heights, start, bound):
            return False
        return are_doubts(archive, room, ticks, bound, self.split, self.doubts)


class Shards:
    """The play with one archive, room and split, as forgetwork.evidence wants it."""

    def __init__(self, archive, room, split):
        self.archive = archive
        self.room = room
        self.split = split

    def has(self, place):
        """Whether this is a state of this split."""
        return is_state(self.archive, self.room, self.split, place)

    def moves(self, place):
        """For each wish at a state that is right, the list of all answers to it."""
        parts, ticks = place
        if ticks == 0:
            return []
        found = [[(0, (parts, ticks - 1))]]
        for at in range(len(parts)):
            found.extend([self.replies(place, at, person) for person in parts[at][0]])
        return found

    def replies(self, place, at, person):
        """The list of all answers to the wish of a person of one build."""
        parts, ticks = place
        before, build, behind = parts[:at], parts[at], parts[at + 1:]
        spare = self.room - kept_lengths(before + behind)
        cost = forgetting_work(self.archive, build, (person,))
        return [(cost, (before + (later,) + behind, ticks - 1)) for later in builds_after(spare, build, (person,))]


def kept_lengths(parts):
    """The number of all kept lengths of some builds."""
    return sum([len(kept) for _, kept in parts])


def all_splits(people):
    """The list of all splits of the ascending people, in any order."""
    if not people:
        return [()]
    first = (people[0],)
    found = []
    for rest in all_splits(people[1:]):
        found.append((first,) + rest)
        found.extend([(first + rest[at],) + rest[:at] + rest[at + 1:] for at in range(len(rest))])
    return found


def is_split(archive, split):
    """Whether this is a split of the archive."""
    if not isinstance(split, tuple) or not all([is_tuple_within(shard, 0, len(archive) - 1) for shard in split]):
        return False
    return split in all_splits(people_of(archive))


def is_state(archive, room, split, state):
    """Whether this is a state of a split."""
    if not isinstance(state, tuple) or len(state) != 2:
        return False
    parts, ticks = state
    if not isinstance(parts, tuple) or len(parts) != len(split) or not is_within(ticks, 0, MOST_TICKS):
        return False
    if not all([is_build(archive, room, part) for part in parts]) or kept_lengths(parts) > room:
        return False
    return all([person in shard for (order, _), shard in zip(parts, split) for person in order])


def is_beginning(archive, room, split, state):
    """Whether this is a state of a split with all people of each shard."""
    if not is_state(archive, room, split, state):
        return False
    return all([len(order) == len(shard) for (order, _), shard in zip(state[0], split)])


def all_parts(split, room):
    """The list of all tuples of a build for each shard, of all of its people, within the room together, in order."""
    if not split:
        return [()]
    return [(part,) + rest for part in builds_of(list(split[0]), room)
            for rest in all_parts(split[1:], room - len(part[1]))]


def beginnings(split, room, ticks):
    """The list of all beginnings of a split, in order."""
    return [(parts, ticks) for parts in all_parts(split, room)]


def are_doubts(archive, room, ticks, bound, split, doubts):
    """Whether these prove that more work than the bound can be necessary in all splits with fewer shards."""
    if not all([is_split(archive, other) for other in doubts]):
        return False
    if sorted(doubts) != sorted([other for other in splits(archive) if len(other) < len(split)]):
        return False
    return all([are_floors(Shards(archive, room, other), doubts[other], beginnings(other, room, ticks), bound + 1)
                for other in doubts])


def check_sharding(archive, room, ticks):
    """Raise the error of the first of these arguments that is wrong."""
    check_archive(archive)
    check_room(room)
    check_ticks(ticks)


def check_dividing(archive, room, ticks, bound):
    """Raise the error of the first of these arguments that is wrong."""
    check_sharding(archive, room, ticks)
    if not is_within(bound, 0, MOST_BOUND):
        raise BadBound("a bound is an integer from 0 to 20")


def best_beginning(archive, room, ticks, split):
    """The first beginning with the least work, and the least works of all states that can come about."""
    known = {}
    starts = beginnings(split, room, ticks)
    needs = [least_from(Shards(archive, room, split), start, known) for start in starts]
    return starts[needs.index(min(needs))], known


def splits(archive):
    """The list of all splits, those with fewer shards first."""
    check_archive(archive)
    return sorted(all_splits(people_of(archive)), key=lambda split: (len(split), split))


def split_work(archive, room, ticks, split):
    """The least bound up to which work is surely enough from some beginning of a split."""
    check_sharding(archive, room, ticks)
    if not is_split(archive, split):
        raise BadSplit("a split is a tuple of ascending tuples in which each person is once")
    check_few(archive)
    start, known = best_beginning(archive, room, ticks, split)
    return known[start]


def divide(archive, room, ticks, bound):
    """The first split with a beginning from which the bound is surely enough, a Divide."""
    check_dividing(archive, room, ticks, bound)
    check_few(archive)
    failed = {}
    # The last split, in which each person is a shard, needs no work, so that the loop always ends with a break.
    for split in splits(archive):
        start, known = best_beginning(archive, room, ticks, split)
        if known[start] <= bound:
            break
        failed[split] = known
    doubts = {other: failed[other] for other in failed if len(other) < len(split)}
    return Divide(split, start[0], known, doubts)


def fewest_shards(archive, room, ticks, bound):
    """The number of shards of the first split for which the bound is surely enough."""
    return len(divide(archive, room, ticks, bound).split)
