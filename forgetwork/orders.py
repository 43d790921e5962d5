"""Lists of tuples in order: all orders of some items, and all choices among them."""


def all_orders(items):
    """All orders of the ascending items, as tuples, in order."""
    if not items:
        return [()]
    found = []
    for at in range(len(items)):
        for rest in all_orders(items[:at] + items[at + 1:]):
            found.append((items[at], *rest))
    return found


def all_choices(items, most):
    """All ascending tuples of at most so many of the ascending items, in order."""
    found = [()]
    if most == 0:
        return found
    for at in range(len(items)):
        for rest in all_choices(items[at + 1:], most - 1):
            found.append((items[at], *rest))
    return found
