"""Which numbers clocks cover and miss, and papers that show it."""

from coverclocks.clocks import inside_of, parts_of, rings_at, round_of
from coverclocks.helper import counts_within, first_counted, least_factor, place_good, split_form_good, whole_good


def covers(clocks):
    return first_missed(clocks) is None


def first_missed(clocks):
    return first_within(clocks, (1, 0))


def missed_of(clocks):
    counts = counts_within(clocks, round_of(clocks))
    return [number for number, many in enumerate(counts) if many == 0]


def miss_good(clocks, thing):
    return whole_good(thing) and rings_at(clocks, thing) == []


def first_within(clocks, clock):
    return first_counted(clock, counts_within(clocks, round_of(clocks + (clock,))), 0)


def cover_paper_good(clocks, thing):
    return paper_good(clocks, thing, (1, 0))


def paper_good(clocks, thing, clock):
    if not isinstance(thing, tuple):
        return False
    if len(thing) == 2 and thing[0] == "leaf":
        return place_good(clocks, thing[1]) and inside_of(clock, clocks[thing[1]])
    if len(thing) == 3 and thing[0] == "split":
        return papers_good(clocks, thing[1], thing[2], clock)
    return False


def papers_good(clocks, k, papers, clock):
    if not split_form_good(k, papers):
        return False
    for paper, part in zip(papers, parts_of(clock, k)):
        if not paper_good(clocks, paper, part):
            return False
    return True


def cover_paper(clocks):
    if not covers(clocks):
        return None
    return paper_for(clocks, (1, 0), round_of(clocks))


# Many is how often the clock's step goes into the round. Where that is once, the clock
# that covers its rest rings wherever it does, so a leaf is found there at the latest.
def paper_for(clocks, clock, many):
    for place, other in enumerate(clocks):
        if inside_of(clock, other):
            return ("leaf", place)
    k = least_factor(many)
    papers = [paper_for(clocks, part, many // k) for part in parts_of(clock, k)]
    return ("split", k, tuple(papers))
