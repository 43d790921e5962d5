"""Archives, and the builds of all their people."""

from forgetwork.errors import BadArchive, BadRoom, TooLarge
from forgetwork.kinds import is_tuple_within, is_within
from forgetwork.orders import all_choices, all_orders

MOST_PEOPLE = 4
MOST_SIZE = 4
MOST_ROOM = 3
FEW_PEOPLE = 3


class Archive:
    """One to four people, each with the work of building in their record."""

    def __init__(self, sizes):
        if not is_tuple_within(sizes, 1, MOST_SIZE) or not is_within(len(sizes), 1, MOST_PEOPLE):
            raise BadArchive("sizes are a tuple of one to four integers from 1 to 4")
        self._sizes = sizes

    @property
    def sizes(self):
        """The sizes, a tuple."""
        return self._sizes

    def __iter__(self):
        return iter(self._sizes)

    def __len__(self):
        return len(self._sizes)

    def __eq__(self, other):
        return isinstance(other, Archive) and self._sizes == other._sizes


def check_archive(archive):
    """Raise BadArchive if this is not an archive."""
    if not isinstance(archive, Archive):
        raise BadArchive("an archive is an Archive")


def check_room(room):
    """Raise BadRoom if this is not a room."""
    if not is_within(room, 0, MOST_ROOM):
        raise BadRoom("a room is an integer from 0 to 3")


def check_few(archive):
    """Raise TooLarge if the archive has too many people for a search over all their builds."""
    if len(archive) > FEW_PEOPLE:
        raise TooLarge("the archive has more than three people")


def people_of(archive):
    """The ascending list of all people."""
    return list(range(len(archive)))


def builds_of(people, room):
    """The list of all builds of the ascending people, in order."""
    lengths = list(range(1, len(people)))
    return [(order, kept) for order in all_orders(people) for kept in all_choices(lengths, room)]


def builds(archive, room):
    """The list of all builds of all people, in order."""
    check_archive(archive)
    check_room(room)
    return builds_of(people_of(archive), room)
