"""Steps that are wanted: rests for them that cover, and papers of cases that show there are none."""

from coverclocks.covering import miss_good
from coverclocks.errors import NoNumber
from coverclocks.far import next_missed
from coverclocks.helper import MOST_NUMBERS, common_multiple, refuse_above, whole_good
from coverclocks.tallies import shares_of

MOST_STEPS = 6
LEAST_STEP = 2
GREATEST_STEP = 24
MOST_RESTS = 3000


def steps_good(thing):
    if not isinstance(thing, list) or not 1 <= len(thing) <= MOST_STEPS:
        return False
    return all([whole_good(step) and LEAST_STEP <= step <= GREATEST_STEP for step in thing])


def refuse_no_steps(thing):
    if not steps_good(thing):
        raise NoNumber()


def refuse_great_steps(steps):
    refuse_no_steps(steps)
    refuse_above(common_multiple(steps), MOST_NUMBERS)


# Rests are told for each step in order, None where the step is not set.
def set_clocks(steps, rests):
    return tuple([(step, rest) for step, rest in zip(steps, rests) if rest is not None])


def open_places(rests):
    return [place for place, rest in enumerate(rests) if rest is None]


def with_rest(rests, place, rest):
    return rests[:place] + [rest] + rests[place + 1:]


def rests_cover(steps, rests):
    return next_missed(set_clocks(steps, rests), 0) is None


def rests_form_good(steps, thing):
    if not isinstance(thing, tuple) or len(thing) != len(steps):
        return False
    return all([whole_good(rest) and 0 <= rest < step for step, rest in zip(steps, thing)])


def rests_good(steps, thing):
    refuse_great_steps(steps)
    return rests_form_good(steps, thing) and rests_cover(steps, thing)


def rests_for(steps):
    refuse_great_steps(steps)
    rests = [None] * len(steps)
    if not rests_left(steps, rests):
        return None
    for place, step in enumerate(steps):
        tried = [with_rest(rests, place, rest) for rest in range(step)]
        rests = first_left(steps, tried)
    return tuple(rests)


# One of the tried is always left, for what stood ahead of them was.
def first_left(steps, tried):
    for rests in tried:
        if rests_left(steps, rests):
            return rests
    return None


# Whether the steps that are not set can have rests so that all cover.
def rests_left(steps, rests):
    return cases_from(steps, rests) is None


def rests_many(steps):
    refuse_no_steps(steps)
    product = 1
    for step in steps:
        product = product * step
    refuse_above(product, MOST_RESTS)
    return many_from(steps, [])


def many_from(steps, rests):
    if len(rests) == len(steps):
        return 1 if rests_cover(steps, rests) else 0
    return sum([many_from(steps, rests + [rest]) for rest in range(steps[len(rests)])])


def steps_share(steps):
    refuse_no_steps(steps)
    return shares_of(tuple([(step, 0) for step in steps]))


def cases_good(steps, thing):
    refuse_no_steps(steps)
    return paper_good(steps, [None] * len(steps), thing)


def paper_good(steps, rests, thing):
    if not isinstance(thing, tuple) or len(thing) != 2:
        return False
    return miss_good(set_clocks(steps, rests), thing[0]) and papers_good(steps, rests, thing[0], thing[1])


def papers_good(steps, rests, number, papers):
    places = open_places(rests)
    if not isinstance(papers, tuple) or len(papers) != len(places):
        return False
    for place, paper in zip(places, papers):
        if not paper_good(steps, with_rest(rests, place, number % steps[place]), paper):
            return False
    return True


def cases_for(steps):
    refuse_great_steps(steps)
    return cases_from(steps, [None] * len(steps))


# Where the set ones miss a number, one that is not set must ring at it: each of these is tried.
# None where one of the ways leads to a cover.
def cases_from(steps, rests):
    number = next_missed(set_clocks(steps, rests), 0)
    if number is None:
        return None
    papers = []
    for place in open_places(rests):
        paper = cases_from(steps, with_rest(rests, place, number % steps[place]))
        if paper is None:
            return None
        papers.append(paper)
    return (number, tuple(papers))
