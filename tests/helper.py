"""Looks of the tests' own: they count number by number and use nothing of the package."""

import itertools
import math
import random

LONG = 10 ** 99 + 7
FAR = 10 ** 59 + 3


def deep(wrap, bottom, levels=49):
    thing = bottom
    for turn in range(levels):
        thing = wrap(thing)
    return thing


def whatever():
    """Things of the kinds that may stand where whatever is handed in, made anew each time."""
    return [
        None, True, False, 0, 1, -1, 2, 5, 7, 11, 1000, LONG, -LONG, FAR, -FAR,
        "", " ", "~", "0", "leaf", "split", "clock 2 0", "(2, 0)", "\\",
        [], [None], [0], [2, 0], [(2, 0)], [[2, 0]], ["leaf", 0], [0, 1, 0], [0, 1],
        (), (None,), (0,), (True,), ((),), ((2, 0),), ((2, 0), (2, 1)), ((2, 1), (2, 0)),
        (None, None), (2, None), (None, 0), (2, "0"), ("2", 0), ([2], 0), (2, [0]), ({}, 0), (2, (0,)),
        (True, 0), (True, False), (1, False), (2, True), (2, False), (0, 0), (1, 0), (1, 1), (2, 0), (2, 2), (2, -1),
        (-2, 0), (1000, 999), (1000, 1000), (1001, 0), (LONG, 0), (LONG, LONG), (7, LONG), (7, -LONG), (0, LONG),
        (2, 0, 0), (0, 1, 0), (0, 1, None), (0, 1, True), (0, 1, 3), (False, True, 0), (1, 0, 0), (0, 0, 0),
        (0, LONG, 0), (-1, 0, 0), (0, 1, 0, 0), (0, 1, "0"), (0, 1, LONG),
        ("leaf",), ("leaf", 0), ("leaf", 1), ("leaf", True), ("leaf", None), ("leaf", LONG), ("leaf", 0, 0),
        ("split", 2), ("split", 2, ()), ("split", LONG, ()), ("split", 2, (("leaf", 0), ("leaf", 1))),
        ("split", 2, None), ("split", 2, [("leaf", 0), ("leaf", 1)]), ("split", 0, ()), ("split", False, ()),
        {}, {2: 0}, {0: 2, 1: 0}, {"step": 2, "rest": 0}, {"leaf": 0}, {(2, 0): True},
        deep(lambda thing: [thing], 0), deep(lambda thing: (thing,), 0), deep(lambda thing: {"in": thing}, None),
        deep(lambda thing: (thing, thing), ()), deep(lambda thing: (2, thing), 0),
        deep(lambda thing: ("split", 2, (thing, thing)), None, 24),
        deep(lambda thing: ("split", 2, (thing, ("leaf", 0))), ("leaf", 0), 24),
    ]


def is_whole(thing):
    return type(thing) is int


def is_place(clocks, thing):
    return is_whole(thing) and thing in range(len(clocks))


def refusal(ask, *handed):
    """The class and the fields of what a call is refused with; None where it is not."""
    try:
        ask(*handed)
    except ValueError as error:
        return (error.__class__, vars(error))
    return None


def is_clock(thing):
    if type(thing) is not tuple or [type(part) for part in thing] != [int, int]:
        return False
    return thing[0] in range(1, 1001) and thing[1] in range(thing[0])


def rung(clock, number):
    return (number - clock[1]) % clock[0] == 0


def count(clocks, number):
    return sum(1 for clock in clocks if rung(clock, number))


def round_looked(clocks):
    """By trying number after number, for small rounds."""
    number = 1
    while any(number % clock[0] for clock in clocks):
        number += 1
    return number


def round_great(clocks):
    return math.lcm(*[clock[0] for clock in clocks])


def counts_look(clocks):
    return [count(clocks, number) for number in range(round_great(clocks))]


def exact_look(clocks):
    return set(counts_look(clocks)) == {1}


def parts_look(clock, k):
    """The clocks of the step times k that ring nowhere but where this one does."""
    step = clock[0] * k
    return [(step, rest) for rest in range(step) if rung(clock, rest)]


def mirror_look(clocks):
    """Of each step the rests at which the clock rings taken below 0."""
    found = []
    for clock in clocks:
        found.extend((clock[0], rest) for rest in range(clock[0]) if rung(clock, -rest))
    return tuple(sorted(found))


def moved_look(clocks, number):
    """Of each step the rests ahead of which, by so much, the clock rings."""
    found = []
    for clock in clocks:
        found.extend((clock[0], rest) for rest in range(clock[0]) if rung(clock, rest - number))
    return tuple(sorted(found))


def whole_look(clocks, places):
    """The clock that these are just all parts of, by trying each one that it could be."""
    chosen = sorted(clocks[place] for place in places)
    if len(chosen) < 2:
        return None
    for step in range(1, chosen[0][0]):
        if step * len(chosen) == chosen[0][0]:
            for rest in range(step):
                if sorted(parts_look((step, rest), len(chosen))) == chosen:
                    return (step, rest)
    return None


def made_look(paper, clock=(1, 0)):
    if paper is None:
        return [clock]
    made = []
    for turn, part in enumerate(paper[1]):
        made.extend(made_look(part, (clock[0] * paper[0], clock[1] + clock[0] * turn)))
    return made


def clash_look(clocks):
    for place in range(len(clocks)):
        for other in range(place + 1, len(clocks)):
            for number in range(clocks[place][0] * clocks[other][0]):
                if rung(clocks[place], number) and rung(clocks[other], number):
                    return (place, other, number)
    return None


def lone_look(clocks, place):
    """The least number at which the clock rings and no other one, by a look through the round."""
    for number in range(round_great(clocks)):
        if rung(clocks[place], number) and count(clocks, number) == 1:
            return number
    return None


def lones_look(clocks):
    return [lone_look(clocks, place) for place in range(len(clocks))]


def places_rung(clocks):
    """The unlike sets of places that ring at a number of the round."""
    found = set()
    for number in range(round_great(clocks)):
        found.add(frozenset(place for place, clock in enumerate(clocks) if rung(clock, number)))
    return found


def is_least(rung_sets, places):
    """Whether each number is rung by one of these, and each of these rings alone among them somewhere."""
    chosen = set(places)
    met = [chosen & rung_set for rung_set in rung_sets]
    return all(met) and all({place} in met for place in places)


def least_look(clocks):
    rung_sets = places_rung(clocks)
    found = []
    for many in range(len(clocks) + 1):
        found.extend(itertools.combinations(range(len(clocks)), many))
    return sorted(places for places in found if is_least(rung_sets, places))


def split_drawn(source, most_many, most_step, ks=(2, 2, 3, 4, 5)):
    """Exact clocks, drawn by splits from (1, 0) on."""
    clocks = [(1, 0)]
    for turn in range(source.randint(0, 8)):
        clock = source.choice(clocks)
        k = source.choice(ks)
        if len(clocks) - 1 + k <= most_many and clock[0] * k <= most_step:
            clocks.remove(clock)
            clocks.extend(parts_look(clock, k))
    return tuple(sorted(clocks))


def all_clocks(most):
    return [(step, rest) for step in range(1, most + 1) for rest in range(step)]


def small_clocks():
    """All clocks, none to ten, of steps up to 4: rounds of 12 at most."""
    world = all_clocks(4)
    for many in range(len(world) + 1):
        yield from itertools.combinations(world, many)


def some_clocks(seed, times, most_step, most_many, most_round=None):
    """Some clocks of greater steps, always the same ones for one seed."""
    source = random.Random(seed)
    told = []
    while len(told) < times:
        found = set()
        for turn in range(source.randint(0, most_many)):
            step = source.randint(1, most_step)
            found.add((step, source.randrange(step)))
        clocks = tuple(sorted(found))
        if most_round is None or round_great(clocks) <= most_round:
            told.append(clocks)
    return told


HALVES = ((2, 0), (2, 1))
# Clocks with a round of just 10,000, and of 10,001.
JUST = ((16, 3), (625, 600))
ABOVE = ((73, 0), (137, 1))
PRIMES = (953, 967, 971, 977, 983, 991, 997)
# Twelve clocks of great steps; their round has more than thirty figures.
GREAT = tuple(sorted((step, step // 3) for step in (512, 729, 625, 841, 961) + PRIMES))
# The known cover whose steps are unlike.
UNLIKE = ((2, 0), (3, 0), (4, 1), (6, 5), (12, 7))
# Ten exact clocks, each half of what those ahead leave.
HALVED = tuple((2 * step, step - 1) for step in (1, 2, 4, 8, 16, 32, 64, 128, 256)) + ((512, 511),)
TWELFTHS = tuple((12, rest) for rest in range(12))
# Thirteen exact clocks that no split makes: lines and points of a box of 2 by 3 by 5.
BOX = (
    (6, 0), (6, 2), (10, 3), (10, 5), (10, 7), (10, 9), (15, 1), (30, 4), (30, 10), (30, 11), (30, 21), (30, 22),
    (30, 28),
)
