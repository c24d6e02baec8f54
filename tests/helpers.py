"""What several tests need: the game by trial, great lost pairs, and wrong inputs."""

import signal


def takings_of(bound, heaps):
    """All takings of these heaps, as point 1 tells them."""
    return [
        (one, other)
        for one in range(heaps[0] + 1)
        for other in range(heaps[1] + 1)
        if (one, other) != (0, 0)
        and (one == 0 or other == 0 or -bound < one - other < bound)
    ]


def lost_by_trial(bound, most):
    """The heaps up to `most` from which no taking leaves lost heaps."""
    lost = set()
    for one in range(most + 1):
        for other in range(most + 1):
            behind = [(one - x, other - y) for x, y in takings_of(bound, (one, other))]
            if not any(heaps in lost for heaps in behind):
                lost.add((one, other))
    return lost


def pairs_in_turn(bound, many):
    """The first lost pairs, one behind the other as point 2 tells them."""
    pairs = [(0, 0)]
    seen = {0}
    least = 1
    while len(pairs) < many:
        while least in seen:
            least += 1
        pair = (least, least + bound * len(pairs))
        pairs.append(pair)
        seen.update(pair)
    return pairs


def great_pairs(bound, figures):
    """Numbers of lost pairs, and these pairs, up to so many figures, without a root.

    The lesser number of pair n is n times the continued fraction [1; bound,
    bound, ...], rounded down. Its convergents p/q are below and above it by
    turns, so near that q times it, rounded down, is p and p - 1 by turns.
    """
    found = []
    last, now = (1, 0), (1, 1)
    above = 0
    while now[1] < 10 ** figures:
        number, lesser = now[1], now[0] - above
        found.append((number, (lesser, lesser + bound * number)))
        last, now = now, (bound * now[0] + last[0], bound * now[1] + last[1])
        above = 1 - above
    return found


class Odd:
    """An object of no kind that the program knows."""

    def __eq__(self, other):
        return True

    def __len__(self):
        return 2

    def __getitem__(self, at):
        return 1

    def __int__(self):
        return 1

    def __index__(self):
        return 1

    def __repr__(self):
        raise RuntimeError("not to be shown")

    __hash__ = None


# Of no refused kind is any of these a whole number.
NO_NUMBERS = [
    True, False, None, 1.0, 2.5, float("nan"), float("inf"), 1j, "1", "", b"1",
    [], [1], (), (1,), (1, 2), {}, {1: 2}, set(), {1}, int, len, Odd(), object(),
]

# None of these is a tuple of two whole numbers.
NO_PAIRS = [
    True, False, None, 0, 1, 3.5, "12", b"12", [], [1, 2], [0, 0], (), (1,), (1, 2, 3),
    (True, 1), (1, True), (False, 0), (0, False), (False, False), (1.0, 2), (1, 2.0),
    ("1", "2"), (None, 1), (1, None), ((1, 2), (3, 4)), ([1], 2), {}, {1: 2, 3: 4},
    {1, 2}, frozenset((1, 2)), range(2), iter((1, 2)), tuple, Odd(), (Odd(), Odd()), object(),
]

GREAT = 10 ** 6000

NO_BOUNDS = NO_NUMBERS + [0, -1, -10 ** 40, -GREAT]

NO_HEAPS = NO_PAIRS + [(-1, 0), (0, -1), (-1, -1), (-GREAT, 1), (1, -GREAT)]


class Delay(Exception):
    """It took too long."""


def _too_long(signum, frame):
    raise Delay("this is to be told at once")


class AtOnce:
    """`with AtOnce():` fails what isn't done within some seconds, also an endless loop."""

    def __init__(self, seconds=20):
        self.seconds = seconds

    def __enter__(self):
        self.before = signal.signal(signal.SIGALRM, _too_long)
        signal.alarm(self.seconds)

    def __exit__(self, kind, value, trace):
        signal.alarm(0)
        signal.signal(signal.SIGALRM, self.before)
