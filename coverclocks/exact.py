"""Exact clocks: all whose steps divide a number, the first with wanted steps, and what they come to by moving."""

from coverclocks.clocks import rings_at, round_of
from coverclocks.covering import first_missed
from coverclocks.helper import common_divisor
from coverclocks.tallies import shares_of


def exact_of(n):
    steps = [step for step in range(1, n + 1) if n % step == 0]
    return sorted([tuple(sorted(clocks)) for clocks in exact_from(steps, ())])


# All exact clocks to which these, of which no two clash, can grow. Each time one is put that rings at
# the first number missed so far, so that all of them are come to, and each in one way alone.
def exact_from(steps, clocks):
    number = first_missed(clocks)
    if number is None:
        return [clocks]
    found = []
    for grown in grown_at(steps, clocks, number):
        found.extend(exact_from(steps, grown))
    return found


# The clocks with one more, of each step that can ring at the number without a clash.
def grown_at(steps, clocks, number):
    tried = [(step, number % step) for step in steps]
    return [clocks + (clock,) for clock in tried if clear_of(clocks, clock)]


def clear_of(clocks, clock):
    for step, rest in clocks:
        if (rest - clock[1]) % common_divisor(step, clock[0]) == 0:
            return False
    return True


def exact_many(n):
    return len(exact_of(n))


def exact_steps(n):
    counts = {}
    for clocks in exact_of(n):
        steps = tuple([clock[0] for clock in clocks])
        counts[steps] = counts.get(steps, 0) + 1
    return sorted(counts.items())


def exact_with(steps):
    if shares_of(tuple([(step, 0) for step in steps])) != (1, 1):
        return None
    # Moved, exact ones stay exact: where there are any, in some the first rest is 0.
    clocks = ((steps[0], 0),)
    if not can_fill(clocks, steps[1:]):
        return None
    for place in range(1, len(steps)):
        clocks = clocks + (first_filling(clocks, steps[place], steps[place + 1:]),)
    return clocks


# There always is one, for with those that stand ahead the steps left were found to fill the rest.
def first_filling(clocks, step, steps):
    for rest in range(step):
        clock = (step, rest)
        if clear_of(clocks, clock) and can_fill(clocks + (clock,), steps):
            return clock
    return None


# Whether the steps left can have rests so that no two of all clash: as the shares come to 1, they are exact then.
# One of the steps left must ring at a number that is missed so far, so each of them is tried there.
def can_fill(clocks, steps):
    if len(steps) == 0:
        return True
    number = missed_by(clocks)
    for place, step in enumerate(steps):
        clock = (step, number % step)
        if step not in steps[:place] and clear_of(clocks, clock):
            if can_fill(clocks + (clock,), steps[:place] + steps[place + 1:]):
                return True
    return False


# The shares of these come to less than 1, so that some number is missed; their round may be too great to be counted.
def missed_by(clocks):
    number = 0
    while rings_at(clocks, number) != []:
        number += 1
    return number


def moved_to(clocks, number):
    return tuple(sorted([(step, (rest + number) % step) for step, rest in clocks]))


def first_moved(clocks):
    return min([moved_to(clocks, number) for number in range(round_of(clocks))])


def moved_kinds(n):
    return len(set([first_moved(clocks) for clocks in exact_of(n)]))
