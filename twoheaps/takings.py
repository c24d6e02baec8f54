"""What may be taken of two heaps, and what is left of them then."""

from twoheaps.checks import check_bound, check_heaps, is_pair
from twoheaps.errors import BadTaking


def can(bound, heaps, taking):
    """Whether this pair of whole numbers is a taking of these heaps."""
    check_bound(bound)
    check_heaps(heaps)
    if not is_pair(taking):
        raise BadTaking("a taking is a tuple of two whole numbers")
    return _is_there(heaps, taking) and _is_let(bound, taking)


def left(bound, heaps, taking):
    """The heaps behind this taking."""
    if not can(bound, heaps, taking):
        raise BadTaking("this is no taking of these heaps")
    return (heaps[0] - taking[0], heaps[1] - taking[1])


def _is_there(heaps, taking):
    """Whether each heap has what is taken of it."""
    return 0 <= taking[0] <= heaps[0] and 0 <= taking[1] <= heaps[1]


def _is_let(bound, taking):
    """Whether something is taken, of one heap alone or of both almost alike."""
    if taking[0] == 0 or taking[1] == 0:
        return taking[0] != taking[1]
    return abs(taking[0] - taking[1]) < bound
