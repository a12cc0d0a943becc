"""How often clocks ring: tallies, shares, clashes and exact clocks."""

from coverclocks.clocks import meet_of, rings_at, round_of
from coverclocks.helper import counts_within, lowest_terms, place_good, whole_good


def times_at(clocks, number):
    return len(rings_at(clocks, number))


def tally_of(clocks):
    tally = [0] * (len(clocks) + 1)
    for many in counts_within(clocks, round_of(clocks)):
        tally[many] += 1
    return tally


def shares_of(clocks):
    bottom = round_of(clocks)
    return lowest_terms(sum([bottom // clock[0] for clock in clocks]), bottom)


def clash_of(clocks):
    for place in range(len(clocks)):
        for other in range(place + 1, len(clocks)):
            met = meet_of(clocks[place], clocks[other])
            if met is not None:
                return (place, other, met[1])
    return None


def clash_good(clocks, thing):
    if not isinstance(thing, tuple) or len(thing) != 3:
        return False
    if not place_good(clocks, thing[0]) or not place_good(clocks, thing[1]):
        return False
    if thing[0] >= thing[1] or not whole_good(thing[2]):
        return False
    return times_at((clocks[thing[0]], clocks[thing[1]]), thing[2]) == 2


# By the shares and the clashes, for the round may be too great to be gone through.
def exact_good(clocks):
    return shares_of(clocks) == (1, 1) and clash_of(clocks) is None


def evenly_of(clocks):
    if uneven_of(clocks) is not None:
        return None
    return times_at(clocks, 0)


def uneven_of(clocks):
    counts = counts_within(clocks, round_of(clocks))
    for number, many in enumerate(counts):
        if many != counts[0]:
            return (0, number)
    return None


def uneven_good(clocks, thing):
    if not isinstance(thing, tuple) or len(thing) != 2:
        return False
    if not whole_good(thing[0]) or not whole_good(thing[1]):
        return False
    return times_at(clocks, thing[0]) != times_at(clocks, thing[1])
