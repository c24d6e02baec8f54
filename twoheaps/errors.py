"""The refusals of the program, one class for each kind of thing that is refused."""


class HeapError(ValueError):
    """Something that was handed in is refused."""


class BadBound(HeapError):
    """No bound: no whole number from 1 on."""


class BadHeaps(HeapError):
    """No heaps: no tuple of two whole numbers from 0 on."""


class BadTaking(HeapError):
    """No tuple of two whole numbers or, where a taking is needed, none of these heaps."""


class BadNumber(HeapError):
    """No whole number, or one below the first that is asked for."""
