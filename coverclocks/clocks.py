"""Clocks: what they are, where they ring and where they meet."""

from coverclocks.errors import NoClocks
from coverclocks.helper import common_divisor, common_multiple, inverse_of, whole_good

MOST_STEP = 1000
MOST_CLOCKS = 12


def clock_good(thing):
    if not isinstance(thing, tuple) or len(thing) != 2:
        return False
    if not whole_good(thing[0]) or not whole_good(thing[1]):
        return False
    return 1 <= thing[0] <= MOST_STEP and 0 <= thing[1] < thing[0]


def clocks_good(thing):
    if not isinstance(thing, tuple) or len(thing) > MOST_CLOCKS:
        return False
    if not all([clock_good(clock) for clock in thing]):
        return False
    return all([ahead < clock for ahead, clock in zip(thing, thing[1:])])


def clocks_of(things):
    found = []
    for place, thing in enumerate(things):
        if not clock_good(thing) or thing in found or len(found) == MOST_CLOCKS:
            raise NoClocks(place)
        found.append(thing)
    return tuple(sorted(found))


def rings(clock, number):
    return number % clock[0] == clock[1]


def rings_at(clocks, number):
    return [clock for clock in clocks if rings(clock, number)]


def first_ring(clock, number):
    return number + (clock[1] - number) % clock[0]


def round_of(clocks):
    return common_multiple([clock[0] for clock in clocks])


def meet_of(one, other):
    shared = common_divisor(one[0], other[0])
    apart = other[1] - one[1]
    if apart % shared != 0:
        return None
    # Of so many rings of the one, one behind the other, the other rings at just one.
    many = other[0] // shared
    turns = apart // shared * inverse_of(one[0] // shared, many) % many
    return (one[0] * many, one[1] + one[0] * turns)


def met_all(clocks):
    met = (1, 0)
    for clock in clocks:
        met = meet_of(met, clock)
        if met is None:
            return None
    return met


def inside_of(one, other):
    return one[0] % other[0] == 0 and rings(other, one[1])


def parts_of(clock, k):
    return [(clock[0] * k, clock[1] + clock[0] * turn) for turn in range(k)]
