"""Forgetting people of a build: the work of it, and the builds after it."""

from forgetwork.archives import check_archive, check_room
from forgetwork.errors import BadBuild, BadPeople
from forgetwork.kinds import is_ascending, is_integer, is_tuple_within
from forgetwork.orders import all_choices, all_orders


def is_build(archive, room, build):
    """Whether this is a build of some people of the archive within the room."""
    if not isinstance(build, tuple) or len(build) != 2:
        return False
    order, kept = build
    if not is_tuple_within(order, 0, len(archive) - 1) or not is_ascending(sorted(order)):
        return False
    return is_tuple_within(kept, 1, len(order) - 1) and is_ascending(kept) and len(kept) <= room


def check_build(archive, room, build):
    """Raise the error of the first of these arguments that is wrong."""
    check_archive(archive)
    check_room(room)
    if not is_build(archive, room, build):
        raise BadBuild("a build is a pair of an order of people and kept lengths within the room")


def are_people(build, people):
    """Whether this is an ascending tuple of one or more people of the build."""
    if not isinstance(people, tuple) or len(people) == 0:
        return False
    return all([is_integer(person) and person in build[0] for person in people]) and is_ascending(people)


def check_forgetting(archive, room, build, people):
    """Raise the error of the first of these arguments that is wrong."""
    check_build(archive, room, build)
    if not are_people(build, people):
        raise BadPeople("people are an ascending tuple of one or more people of the build")


def base_of(build, people):
    """The greatest length at hand before the first of these people."""
    order, kept = build
    first = min([order.index(person) for person in people])
    return max([0] + [length for length in kept if length <= first])


def built_again(build, people):
    """The ascending list of those who are built in again when these people are forgotten."""
    order, _ = build
    return sorted([person for person in order[base_of(build, people):] if person not in people])


def forgetting_work(archive, build, people):
    """The work of forgetting, for arguments that are right."""
    return sum([archive.sizes[person] for person in built_again(build, people)])


def builds_after(room, build, people):
    """The list of all builds after forgetting, in order, for arguments that are right."""
    order, kept = build
    base = base_of(build, people)
    again = built_again(build, people)
    lengths = [length for length in range(1, base + len(again)) if length > base or length in kept]
    choices = all_choices(lengths, room)
    return [(order[:base] + rest, choice) for rest in all_orders(again) for choice in choices]


def work(archive, room, build, people):
    """The work of forgetting people."""
    check_forgetting(archive, room, build, people)
    return forgetting_work(archive, build, people)


def after(archive, room, build, people):
    """The list of all builds after forgetting people, in order."""
    check_forgetting(archive, room, build, people)
    return builds_after(room, build, people)
