"""Clocks split into parts and joined again, and papers of splits."""

from coverclocks.clocks import MOST_CLOCKS, MOST_STEP, inside_of, parts_of
from coverclocks.errors import NoPlace
from coverclocks.helper import common_divisor, refuse_above, refuse_no_place
from coverclocks.helper import rising_once, rising_places_good, split_form_good


def split_at(clocks, place, k):
    refuse_no_place(clocks, place)
    clock = clocks[place]
    others = clocks[:place] + clocks[place + 1:]
    step = clock[0] * k
    twice = [other for other in others if other[0] == step and inside_of(other, clock)]
    refuse_above(len(others) + k - len(twice), MOST_CLOCKS)
    refuse_above(step, MOST_STEP)
    return rising_once(others + tuple(parts_of(clock, k)))


def joins_of(clocks):
    found = []
    for clock in clocks:
        for k in range(2, len(clocks) + 1):
            parts = parts_from(clock, k)
            if parts != [] and all([part in clocks for part in parts]):
                found.append(tuple([clocks.index(part) for part in parts]))
    return sorted(found)


# The k parts of one clock of which this is the first; none where no such step is split by k.
# Where it can't be the first, the last of them has a rest that no clock has.
def parts_from(clock, k):
    if clock[0] % k != 0:
        return []
    return parts_of(whole_from(clock, k), k)


def whole_from(clock, k):
    return (clock[0] // k, clock[1])


def join_at(clocks, places):
    # Truths are like 0 and 1 to Python, so the form is asked ahead.
    if not rising_places_good(clocks, places) or places not in joins_of(clocks):
        raise NoPlace()
    whole = whole_from(clocks[places[0]], len(places))
    others = [clock for place, clock in enumerate(clocks) if place not in places]
    return rising_once(others + [whole])


def split_good(clocks, thing):
    made = made_of(clocks, thing, (1, 0))
    return made is not None and sorted(made) == list(clocks)


# What the thing makes of the clock; None where it is no split paper or makes a clock that is not
# among these. This is asked at each clock made, for a paper with shared parts may make millions.
def made_of(clocks, thing, clock):
    if thing is None:
        return [clock] if clock in clocks else None
    if not isinstance(thing, tuple) or len(thing) != 2 or not split_form_good(thing[0], thing[1]):
        return None
    made = []
    for paper, part in zip(thing[1], parts_of(clock, thing[0])):
        more = made_of(clocks, paper, part)
        if more is None:
            return None
        made.extend(more)
    return made


def split_paper(clocks):
    papers = papers_making(list(clocks), (1, 0))
    return papers[0] if papers != [] else None


# The paper that makes just these of the clock, in a list, for None is a paper too; an empty one where there is none.
def papers_making(clocks, clock):
    if clocks == [clock]:
        return [None]
    k = prime_for(clocks, clock)
    if k is None:
        return []
    papers = []
    for part in parts_of(clock, k):
        found = papers_making([inner for inner in clocks if inside_of(inner, part)], part)
        if found == []:
            return []
        papers.append(found[0])
    return [(k, tuple(papers))]


# The least divisor above 1 is a prime. One that is more than the clocks are would leave a part without any.
def prime_for(clocks, clock):
    shared = 0
    for inner in clocks:
        shared = common_divisor(shared, inner[0] // clock[0])
    for k in range(2, len(clocks) + 1):
        if shared % k == 0:
            return k
    return None
