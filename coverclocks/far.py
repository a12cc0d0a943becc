"""Counting far beyond a round: how many numbers are rung, and which are missed."""

from coverclocks.clocks import meet_of, rings_at
from coverclocks.covering import miss_good
from coverclocks.errors import NoNumber
from coverclocks.helper import doubled, refuse_above

MOST_FAR_CLOCKS = 10


def rung_below(clocks, bound):
    refuse_above(len(clocks), MOST_FAR_CLOCKS)
    tally = [0] * (len(clocks) + 1)
    for met, weight in weights_of(clocks).items():
        many = rings_below(met, bound)
        tally = [counted + many * part for counted, part in zip(tally, weight)]
    return tally


# For each clock in which some of the clocks meet, a list: at k, how often its rings are to be taken, or
# taken away, so that those of all together come to how many numbers are rung by just k. With one clock
# more, what it meets was rung by k and is rung by one more: it is taken away at k, and taken at the next.
def weights_of(clocks):
    weights = {(1, 0): [1]}
    for clock in clocks:
        grown = {}
        for met, weight in weights.items():
            put_weight(grown, met, weight + [0])
            both = meet_of(met, clock)
            if both is not None:
                put_weight(grown, both, [more - less for more, less in zip([0] + weight, weight + [0])])
        weights = grown
    return weights


def put_weight(weights, met, weight):
    ahead = weights.get(met, [0] * len(weight))
    weights[met] = [one + other for one, other in zip(ahead, weight)]


def rings_below(clock, bound):
    return max(0, (bound - clock[1] - 1) // clock[0] + 1)


def missed_below(weights, bound):
    return sum([weight[0] * rings_below(met, bound) for met, weight in weights.items()])


def nth_missed(clocks, n):
    if next_missed(clocks, 0) is None:
        raise NoNumber()
    weights = weights_of(clocks)
    low = 0
    high = (n + 1) * window_of(clocks) - 1
    while low < high:
        middle = (low + high) // 2
        if missed_below(weights, middle + 1) > n:
            high = middle
        else:
            low = middle + 1
    return low


def missed_ahead(clocks, number):
    refuse_above(len(clocks), MOST_FAR_CLOCKS)
    if not miss_good(clocks, number) or number < 0:
        raise NoNumber()
    return missed_below(weights_of(clocks), number)


# Clocks that ring at each of so many numbers, one behind the other, miss none,
# as Crittenden and Vanden Eynden have shown: so no more than these are looked at.
def window_of(clocks):
    return doubled(len(clocks))


def next_missed(clocks, number):
    refuse_above(len(clocks), MOST_FAR_CLOCKS)
    for looked in range(number, number + window_of(clocks)):
        if rings_at(clocks, looked) == []:
            return looked
    return None


def last_missed(clocks, number):
    refuse_above(len(clocks), MOST_FAR_CLOCKS)
    for looked in range(number, number - window_of(clocks), -1):
        if rings_at(clocks, looked) == []:
            return looked
    return None
