"""Keepers in plain words of Python, to compare the program with: their answers, and all sums that wishes can make."""

from tests.plain import plain_base, plain_wishes

KEEPERS = ("none", "low", "high", "lazy")


def plain_reply(archive, room, delay, position, wish, keeper):
    """The answer of a keeper, straight from point [9]."""
    order, kept, waiting, ticks = position
    left = dict(waiting)
    if wish is not None:
        left[wish] = delay
    later = ticks - 1 if ticks else 0
    can_wait = ticks > 0 and all(many >= 1 for many in left.values())
    if not left or keeper == "lazy" and can_wait:
        return 0, (order, kept, tuple((person, left[person] - 1) for person in sorted(left)), later)
    base = plain_base((order, kept), left)
    again = tuple(person for person in order if person not in left)
    lengths = {length for length in kept if length <= base} | set(range(base + 1, len(order)))
    lengths = sorted(length for length in lengths if length < len(again))
    while len(lengths) > room or lengths and keeper == "none":
        del lengths[-1 if keeper == "low" else 0]
    cost = sum(archive.sizes[person] for person in again[base:])
    return cost, (again, tuple(lengths), (), later)


class Keeping:
    """The play with one keeper, and what its wishes come to."""

    def __init__(self, archive, room, delay, keeper):
        self.told = (archive, room, delay)
        self.keeper = keeper

    def reply(self, place, wish):
        return plain_reply(*self.told, place, wish, self.keeper)

    def lists(self, place):
        """All lists of wishes up to the end of the play, each with the sum of its works."""
        if not plain_wishes(place):
            return [([], 0)]
        found = []
        for wish in plain_wishes(place):
            cost, later = self.reply(place, wish)
            found.extend([([wish] + rest, cost + more) for rest, more in self.lists(later)])
        return found

    def places(self, start):
        """All positions that can come about."""
        found, queue = {start}, [start]
        while queue:
            place = queue.pop()
            fresh = {self.reply(place, wish)[1] for wish in plain_wishes(place)} - found
            found |= fresh
            queue.extend(fresh)
        return found

    def heights(self, start):
        return {place: max(total for _, total in self.lists(place)) for place in self.places(start)}

    def right(self, start, total, wishes, heights):
        """Whether these are a total, wishes and heights as point [9] says."""
        sums = [found for asked, found in self.lists(start) if asked == wishes]
        if sums != [total] or start not in heights or heights[start] > total:
            return False
        for place, height in heights.items():
            if height < 0:
                return False
            for wish in plain_wishes(place):
                cost, later = self.reply(place, wish)
                if later not in heights or cost + heights[later] > height:
                    return False
        return True
