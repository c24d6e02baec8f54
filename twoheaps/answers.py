"""What can be told of two heaps: that they are lost, or that a taking wins."""

from twoheaps.checks import are_heaps, is_bound, is_pair, is_whole
from twoheaps.pairs import number_of
from twoheaps.takings import can, left


class Answer:
    """What is told of two heaps."""


class Lost(Answer):
    """The heaps are the lost pair of this number."""

    def __init__(self, number):
        self.number = number

    def shows(self, bound, heaps):
        """Whether these heaps are, in either turn, the lost pair of this number."""
        if not is_bound(bound) or not are_heaps(heaps) or not is_whole(self.number):
            return False
        return number_of(bound, heaps) == self.number


class Won(Answer):
    """This taking leaves a lost pair."""

    def __init__(self, taking):
        self.taking = taking

    def shows(self, bound, heaps):
        """Whether this is a taking of these heaps that leaves a lost pair."""
        if not is_bound(bound) or not are_heaps(heaps) or not is_pair(self.taking):
            return False
        if not can(bound, heaps, self.taking):
            return False
        return number_of(bound, left(bound, heaps, self.taking)) is not None
