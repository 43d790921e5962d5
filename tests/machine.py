"""A machine of its own for logs and sessions, on the plain answers of tests.plain."""

from tests.plain import plain_answers, plain_wishes


class Dice:
    """Numbers that look like chance, but are the same each time."""

    def __init__(self, seed):
        self.now = seed

    def below(self, many):
        self.now = (self.now * 6364136223846793005 + 1442695040888963407) % 2 ** 64
        return (self.now >> 33) % many

    def pick(self, items):
        return items[self.below(len(items))]


def plain_pairs(told, position):
    """All pairs that are possible at a position, each with its work."""
    return [((wish, later), cost) for wish in plain_wishes(position)
            for cost, later in plain_answers(*told, position, wish)]


def all_logs(told, position):
    """All logs from a position, each with the list of its works."""
    found = [([], [])]
    for pair, cost in plain_pairs(told, position):
        found.extend([([pair] + rest, [cost] + works) for rest, works in all_logs(told, pair[1])])
    return found


def long_log(told, position, dice):
    """A log to the end of the play, with the list of its works."""
    log, works = [], []
    while plain_wishes(position):
        pair, cost = dice.pick(plain_pairs(told, position))
        log.append(pair)
        works.append(cost)
        position = pair[1]
    return log, works


class Machine:
    """What a session must be like: its pairs, their works, and how many pairs each trial began with."""

    def __init__(self, told, start):
        self.told, self.start = told, start
        self.pairs, self.works, self.begun = [], [], []

    def position(self):
        return self.pairs[-1][1] if self.pairs else self.start

    def play(self, pair, cost):
        self.pairs.append(pair)
        self.works.append(cost)

    def can_undo(self):
        return len(self.pairs) > (self.begun[-1] if self.begun else 0)

    def undo(self):
        self.works.pop()
        return self.pairs.pop()

    def branch(self):
        other = Machine(self.told, self.start)
        other.pairs, other.works = list(self.pairs), list(self.works)
        return other
