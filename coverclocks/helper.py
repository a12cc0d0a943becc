"""What several modules of the package need."""

from coverclocks.errors import NoPlace, TooGreat

MOST_NUMBERS = 10000


def whole_good(thing):
    # Python counts truths among its ints; here they are no numbers.
    return isinstance(thing, int) and not isinstance(thing, bool)


def place_good(things, thing):
    return whole_good(thing) and 0 <= thing < len(things)


def refuse_no_place(things, thing):
    if not place_good(things, thing):
        raise NoPlace()


def rising_places_good(things, thing):
    if not isinstance(thing, tuple) or not all([place_good(things, place) for place in thing]):
        return False
    return all([ahead < place for ahead, place in zip(thing, thing[1:])])


def split_form_good(k, papers):
    # The length is asked here, ahead of any parts, for k may have a hundred figures.
    return whole_good(k) and k >= 2 and isinstance(papers, tuple) and len(papers) == k


def rising_once(things):
    return tuple(sorted(set(things)))


def refuse_above(many, most):
    if many > most:
        raise TooGreat(many, most)


def doubled(times):
    number = 1
    for turn in range(times):
        number += number
    return number


def common_divisor(one, other):
    while other != 0:
        left = one % other
        one = other
        other = left
    return one


def common_multiple(numbers):
    least = 1
    for number in numbers:
        least = least * (number // common_divisor(least, number))
    return least


def least_factor(number):
    factor = 2
    while factor * factor <= number:
        if number % factor == 0:
            return factor
        factor += 1
    return number


# What times the number leaves 1 by the bound; they have no divisor above 1 in common.
# Euclid's steps are written as a loop, for told clocks can have steps of hundreds of figures.
def inverse_of(number, bound):
    high = bound
    low = number % bound
    high_factor = 0
    low_factor = 1
    while low != 0:
        turns = high // low
        left = high - turns * low
        left_factor = high_factor - turns * low_factor
        high = low
        high_factor = low_factor
        low = left
        low_factor = left_factor
    return high_factor % bound


def lowest_terms(top, bottom):
    shared = common_divisor(top, bottom)
    return (top // shared, bottom // shared)


def counts_within(clocks, many):
    refuse_above(many, MOST_NUMBERS)
    counts = [0] * many
    for step, rest in clocks:
        for number in range(rest, many, step):
            counts[number] += 1
    return counts


# The least number at which the clock rings and just so many do, as the counts tell.
def first_counted(clock, counts, many):
    for number in range(clock[1], len(counts), clock[0]):
        if counts[number] == many:
            return number
    return None
