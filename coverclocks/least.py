"""Idle and needed clocks, and the least covers within clocks."""

from coverclocks.clocks import rings_at, round_of
from coverclocks.covering import covers
from coverclocks.helper import MOST_NUMBERS, counts_within, doubled, first_counted
from coverclocks.helper import refuse_above, refuse_no_place, rising_places_good, whole_good


def idle_of(clocks):
    return [place for place, number in enumerate(lone_numbers(clocks)) if number is None]


def lone_at(clocks, place):
    refuse_no_place(clocks, place)
    return lone_numbers(clocks)[place]


def lone_numbers(clocks):
    counts = counts_within(clocks, round_of(clocks))
    return [first_counted(clock, counts, 1) for clock in clocks]


def needs_good(clocks, thing):
    if not isinstance(thing, tuple) or len(thing) != len(clocks):
        return False
    for clock, number in zip(clocks, thing):
        if not whole_good(number) or rings_at(clocks, number) != [clock]:
            return False
    return True


def needs_paper(clocks):
    numbers = lone_numbers(clocks)
    if None in numbers:
        return None
    return tuple(numbers)


def least_covers(clocks):
    bits = [doubled(place) for place in range(len(clocks))]
    wanted = wanted_marks(clocks, bits)
    spared = [mark for mark in range(len(wanted)) if most_spared(wanted, bits, mark)]
    return sorted([places_kept(bits, mark) for mark in spared])


def fewest_cover(clocks):
    # They rise as tuples, and of those with fewest places the first is told.
    return min(least_covers(clocks), key=len, default=None)


# The round is that of all the clocks, whatever the thing is.
def least_good(clocks, thing):
    refuse_above(round_of(clocks), MOST_NUMBERS)
    if not rising_places_good(clocks, thing):
        return False
    chosen = tuple([clocks[place] for place in thing])
    return covers(chosen) and idle_of(chosen) == []


# A mark is a set of places written as a number, a bit for each place: so all sets of twelve
# are gone through at once. Here: at each number of the round, which clocks ring.
def ring_marks(clocks, bits):
    many = round_of(clocks)
    refuse_above(many, MOST_NUMBERS)
    marks = [0] * many
    for clock, bit in zip(clocks, bits):
        for number in range(clock[1], many, clock[0]):
            marks[number] += bit
    return marks


# At each mark whether some number is rung by none but its clocks: then not all of these can be spared.
def wanted_marks(clocks, bits):
    wanted = [False] * doubled(len(clocks))
    for mark in ring_marks(clocks, bits):
        wanted[mark] = True
    for bit in bits:
        for mark in range(len(wanted)):
            if (mark & bit) != 0 and wanted[mark - bit]:
                wanted[mark] = True
    return wanted


# A least cover is what is left where just as many are spared as can be.
def most_spared(wanted, bits, mark):
    if wanted[mark]:
        return False
    return all([wanted[mark + bit] for bit in bits if (mark & bit) == 0])


def places_kept(bits, mark):
    return tuple([place for place, bit in enumerate(bits) if (mark & bit) == 0])
