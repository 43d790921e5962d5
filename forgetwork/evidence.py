"""The least work that is surely enough in a play, and the check of heights and floors that prove it.

A play is an object with two methods, as Play in forgetwork.play: `has` tells whether something is a place of it, and
`moves` returns, for each wish at a place, the list of the work and the place after each answer.
"""

from forgetwork.kinds import is_integer


def comes_to_more(play, start, most):
    """Whether more than so many places can come about from the start, itself included."""
    seen = {start}
    waiting = [start]
    while waiting and len(seen) <= most:
        place = waiting.pop()
        for replies in play.moves(place):
            for _, later in replies:
                if later not in seen:
                    seen.add(later)
                    waiting.append(later)
    return len(seen) > most


def least_from(play, place, known):
    """The least work that is surely enough from a place; known gets that of all places that can come about."""
    if place not in known:
        needs = [0]
        for replies in play.moves(place):
            needs.append(min([cost + least_from(play, later, known) for cost, later in replies]))
        known[place] = max(needs)
    return known[place]


def is_enough_at(play, heights, place):
    """Whether each wish at the place has an answer that the heights allow."""
    most = heights[place]
    return all([any([later in heights and cost + heights[later] <= most for cost, later in replies])
                for replies in play.moves(place)])


def is_needed_at(play, floors, place):
    """Whether some wish at the place has no answer that gets below the floor there."""
    least = floors[place]
    return least <= 0 or any([all([cost + max(0, floors.get(later, 0)) >= least for cost, later in replies])
                              for replies in play.moves(place)])


def are_heights(play, heights, start, most):
    """Whether these are heights that prove that so much work is surely enough from the start."""
    if not all([play.has(place) and is_integer(heights[place]) and heights[place] >= 0 for place in heights]):
        return False
    if start not in heights or heights[start] > most:
        return False
    return all([is_enough_at(play, heights, place) for place in heights])


def are_floors(play, floors, starts, least):
    """Whether these are floors that prove that from no start less work is surely enough."""
    if not all([play.has(place) and is_integer(floors[place]) for place in floors]):
        return False
    if least > 0 and not all([start in floors and floors[start] >= least for start in starts]):
        return False
    return all([is_needed_at(play, floors, place) for place in floors])


def copied(table):
    """A new dict with the same items."""
    return {key: table[key] for key in table}


def just_enough(pairs):
    """Those of the pairs, ascending, whose bound is less than all bounds before."""
    return [pairs[at] for at in range(len(pairs)) if all([pairs[at][1] < bound for _, bound in pairs[:at]])]
