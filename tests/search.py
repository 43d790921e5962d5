"""A search of its own over all wishes and answers, and heights and floors that are built and checked without the program."""

from itertools import count

from tests.plain import plain_after, plain_answers, plain_wishes, plain_work


class PlainPlay:
    """The play of point [4]: for each wish, all answers."""

    def __init__(self, archive, room, delay):
        self.told = (archive, room, delay)

    def answers(self, place):
        return {wish: plain_answers(*self.told, place, wish) for wish in plain_wishes(place)}


class PlainShards:
    """The play of point [7]: for each wish, all answers."""

    def __init__(self, archive, room):
        self.archive, self.room = archive, room

    def answers(self, place):
        parts, ticks = place
        if ticks == 0:
            return {}
        found = {None: [(0, (parts, ticks - 1))]}
        for at, build in enumerate(parts):
            for person in build[0]:
                cost = plain_work(self.archive, build, (person,))
                later = [parts[:at] + (part,) + parts[at + 1:] for part in plain_after(3, build, (person,))]
                found[person] = [(cost, (some, ticks - 1)) for some in later
                                 if sum(len(kept) for _, kept in some) <= self.room]
        return found


class Search:
    """All that the tests ask about one play."""

    def __init__(self, play):
        self.play = play
        self.known = {}
        self.asked = {}

    def answers(self, place):
        if place not in self.known:
            self.known[place] = self.play.answers(place)
        return self.known[place]

    def enough(self, place, budget):
        """Whether the builder gets along with the budget, whatever the asker wishes."""
        key = place, budget
        if key not in self.asked:
            self.asked[key] = all(
                any(cost <= budget and self.enough(later, budget - cost) for cost, later in replies)
                for replies in self.answers(place).values())
        return self.asked[key]

    def least(self, place):
        return next(budget for budget in count() if self.enough(place, budget))

    def places(self, *starts):
        """All places that can come about."""
        found = set(starts)
        queue = list(starts)
        while queue:
            for replies in self.answers(queue.pop()).values():
                fresh = {later for _, later in replies} - found
                found |= fresh
                queue.extend(fresh)
        return found

    def all_least(self, *starts):
        return {place: self.least(place) for place in self.places(*starts)}

    def plan(self, start):
        """Heights of only those places to which one plan of the builder leads."""
        heights, queue = {}, [start]
        while queue:
            place = queue.pop()
            heights[place] = self.least(place)
            for replies in self.answers(place).values():
                later = next(later for cost, later in replies if cost + self.least(later) <= heights[place])
                if later not in heights:
                    queue.append(later)
        return heights

    def claims(self, *starts):
        """Floors of only those places to which one plan of the asker leads, where work is left."""
        floors, queue = {}, [start for start in starts if self.least(start)]
        while queue:
            place = queue.pop()
            floors[place] = self.least(place)
            replies = next(replies for replies in self.answers(place).values()
                           if all(cost + self.least(later) >= floors[place] for cost, later in replies))
            queue.extend(later for _, later in replies if self.least(later) and later not in floors)
        return floors

    def right_heights(self, heights, start, bound):
        """Whether these are heights as the document says."""
        for place, height in heights.items():
            if type(height) is not int or height < 0:
                return False
            for replies in self.answers(place).values():
                if height < min([cost + heights[later] for cost, later in replies if later in heights], default=height + 1):
                    return False
        return start in heights and heights[start] <= bound

    def right_floors(self, floors, starts, least):
        """Whether these are floors as the document says, of at least so much at the starts, if it is more than 0."""
        for place, floor in floors.items():
            left = {wish: min(cost + max(floors.get(later, 0), 0) for cost, later in replies)
                    for wish, replies in self.answers(place).items()}
            if type(floor) is not int or floor > 0 and floor > max(left.values(), default=0):
                return False
        return least <= 0 or all(floors.get(start, 0) >= least for start in starts)


def changed(table):
    """The table with one part changed, in every way that the tests try."""
    for key in table:
        others = {other: table[other] for other in table if other != key}
        yield others
        for by in (-2, -1, 1, 2):
            yield {**others, key: table[key] + by}
        yield {**others, key: -1}
        yield {**others, key: 0}
