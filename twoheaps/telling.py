"""Who wins from two heaps, and by which taking."""

from twoheaps.answers import Lost, Won
from twoheaps.checks import check_bound, check_heaps
from twoheaps.pairs import number_of, pair_by, pair_with


def told(bound, heaps):
    """Lost with the number of the lost pair, or Won with a taking that leaves one."""
    check_bound(bound)
    check_heaps(heaps)
    number = number_of(bound, heaps)
    if number is not None:
        return Lost(number)
    return Won(_winning(bound, heaps))


def _winning(bound, heaps):
    """A taking of these heaps, which are no lost pair, that leaves a lost pair."""
    one, other = heaps
    if one <= other:
        rest, other_rest = _aim(bound, one, other)
    else:
        other_rest, rest = _aim(bound, other, one)
    return (one - rest, other - other_rest)


def _aim(bound, lesser, greater):
    """What to leave of the lesser heap and of the greater one, so that they are a lost pair."""
    if lesser == 0:
        return (0, 0)
    first, second = pair_by(bound, pair_with(bound, lesser))
    if lesser == second:
        return (second, first)
    if greater > second:
        return (first, second)
    # The heaps are less far apart than this pair: so the last pair that is no
    # farther apart than they are is ahead of it, with less in both heaps, and
    # what is taken of the two heaps differs by less than the bound.
    return pair_by(bound, (greater - lesser) // bound)
