"""Keepers, the fixed strategies of the builder, and the most work that wishes can make for them."""

from forgetwork.errors import BadKeeper, BadWish
from forgetwork.evidence import are_heights, copied, least_from
from forgetwork.kinds import is_integer
from forgetwork.play import Play, check_position, is_wish, pending_wishes, possible_answers, possible_wishes

KEEPERS = ("none", "low", "high", "lazy")


class Worst:
    """The greatest sum of works for a keeper, wishes that make it, and heights: no wishes make more."""

    def __init__(self, total, wishes, heights):
        self.total = total
        self.wishes = list(wishes)
        self.heights = copied(heights)

    def __iter__(self):
        return iter(self.wishes)

    def __eq__(self, other):
        return (isinstance(other, Worst) and self.total == other.total and self.wishes == other.wishes
                and self.heights == other.heights)

    def shows(self, archive, room, delay, position, keeper):
        """Whether the wishes make the total, and the heights prove that no wishes make more."""
        check_keeping(archive, room, delay, position, keeper)
        play = KeptPlay(archive, room, delay, keeper)
        return (is_integer(self.total) and are_heights(play, self.heights, position, self.total)
                and sum_of_works(play, position, self.wishes) == self.total)


class KeptPlay(Play):
    """The play in which a keeper answers, as forgetwork.evidence wants it."""

    def __init__(self, archive, room, delay, keeper):
        Play.__init__(self, archive, room, delay)
        self.keeper = keeper

    def reply(self, place, wish):
        """The work and the position after the answer of the keeper to a wish that is possible."""
        replies = possible_answers(self.archive, self.room, self.delay, place, wish)
        people = [person for person, _ in pending_wishes(self.delay, place, wish)]
        return reply_of(self.keeper, place[0], people, replies)

    def moves(self, place):
        """For each wish at a position that is right, the list of the only answer to it."""
        return [[self.reply(place, wish)] for wish in possible_wishes(place)]


def check_keeper(keeper):
    """Raise BadKeeper if this is not one of the words for a keeper."""
    if not isinstance(keeper, str) or keeper not in KEEPERS:
        raise BadKeeper("a keeper is one of none, low, high and lazy")


def check_keeping(archive, room, delay, position, keeper):
    """Raise the error of the first of these arguments that is wrong."""
    check_position(archive, room, delay, position)
    check_keeper(keeper)


def reply_of(keeper, order, people, replies):
    """The one of all answers that a keeper gives where the wishes of these people of the order wait."""
    # Waiting is the only answer that leaves the order as it is if wishes wait, and the only answer if none does.
    waiting = [(cost, later) for cost, later in replies if later[0] == order]
    if waiting and (keeper == "lazy" or not people):
        return waiting[0]
    left = tuple([person for person in order if person not in people])
    forgetting = [(cost, later) for cost, later in replies if later[0] == left]
    return reply_by_kept(keeper, forgetting)


def reply_by_kept(keeper, replies):
    """The one of the answers with one order, in the order of their kept lengths, whose kept lengths a keeper takes."""
    if keeper == "none":
        return replies[0]
    most = max([len(later[1]) for _, later in replies])
    fullest = [(cost, later) for cost, later in replies if len(later[1]) == most]
    # Among tuples of so many of the lengths, the first is that of the least ones, and the last that of the greatest.
    if keeper == "low":
        return fullest[0]
    return fullest[-1]


def sum_of_works(play, start, wanted):
    """The sum of the works that these wishes make from the start to the end of the play, or None if they do not."""
    place = start
    found = 0
    for wish in wanted:
        if not is_wish(place, wish):
            return None
        cost, place = play.reply(place, wish)
        found += cost
    if possible_wishes(place):
        return None
    return found


def worst_wishes(play, start, known):
    """The list of the first wishes with the most work from the start to the end of the play."""
    found = []
    place = start
    choices = possible_wishes(place)
    while choices:
        replies = [play.reply(place, wish) for wish in choices]
        works = [cost + known[later] for cost, later in replies]
        at = works.index(max(works))
        found.append(choices[at])
        place = replies[at][1]
        choices = possible_wishes(place)
    return found


def answer(archive, room, delay, position, wish, keeper):
    """The work and the position after the answer of a keeper to a wish."""
    check_position(archive, room, delay, position)
    if not is_wish(position, wish):
        raise BadWish("not a wish that is possible at this position")
    check_keeper(keeper)
    return KeptPlay(archive, room, delay, keeper).reply(position, wish)


def worst(archive, room, delay, position, keeper):
    """The most work that wishes can make from a position for a keeper, a Worst."""
    check_keeping(archive, room, delay, position, keeper)
    play = KeptPlay(archive, room, delay, keeper)
    known = {}
    # Where the builder has only one answer, the least work that is surely enough is the most that wishes can make.
    most = least_from(play, position, known)
    return Worst(most, worst_wishes(play, position, known), known)


def most_work(archive, room, delay, position, keeper):
    """The greatest sum of the works that wishes can make from a position for a keeper."""
    return worst(archive, room, delay, position, keeper).total
