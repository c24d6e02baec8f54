"""What is a whole number, a pair, a bound and heaps, and the refusals of what is none."""

from twoheaps.errors import BadBound, BadHeaps, BadNumber

# The messages never show what was refused: to show a number of some
# thousand figures is an error of Python's own, and other objects may fail too.


def is_whole(value):
    """Whether this is a whole number; True and False are none."""
    return isinstance(value, int) and not isinstance(value, bool)


def is_pair(value):
    """Whether this is a tuple of two whole numbers, of either sign."""
    if not isinstance(value, tuple) or len(value) != 2:
        return False
    return is_whole(value[0]) and is_whole(value[1])


def is_bound(value):
    """Whether this is a bound: a whole number from 1 on."""
    return is_whole(value) and value >= 1


def are_heaps(value):
    """Whether this is a pair of heaps: a tuple of two whole numbers from 0 on."""
    return is_pair(value) and value[0] >= 0 and value[1] >= 0


def check_bound(bound):
    """Refuse what is no bound."""
    if not is_bound(bound):
        raise BadBound("a bound is a whole number from 1 on")


def check_heaps(heaps):
    """Refuse what is no pair of heaps."""
    if not are_heaps(heaps):
        raise BadHeaps("heaps are a tuple of two whole numbers from 0 on")


def check_number(number, first):
    """Refuse what is no whole number from the first one on."""
    if not is_whole(number) or number < first:
        raise BadNumber("a whole number is needed, not below the first one")
