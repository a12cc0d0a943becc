import fractions
import itertools
import math
import random
import unittest

from coverclocks.errors import NoNumber, TooGreat
from coverclocks.wanted import cases_for, cases_good, rests_for, rests_good, rests_many, steps_share
from tests.helper import FAR, LONG, deep, is_whole, refusal, whatever

OF_STEPS = (rests_for, rests_many, steps_share, cases_for)
OF_THING = (rests_good, cases_good)
NO_NUMBER = (NoNumber, {})
UNLIKE_STEPS = [12, 6, 4, 3, 2]
# No steps have 10,000 as the least number that all divide: of these it is 9,945 and 10,010, the nearest there are.
NEAR = [9, 17, 15, 13, 5, 3]
ABOVE_STEPS = [13, 11, 7, 5, 2, 2]
PRIME_STEPS = [23, 19, 17, 13, 11, 24]


def steps_of(seed, times, most_many, most_step, most_product=None, most_shared=None):
    """Some steps, always the same ones for one seed."""
    source = random.Random(seed)
    found = []
    while len(found) < times:
        steps = [source.randint(2, most_step) for turn in range(source.randint(1, most_many))]
        if most_product is not None and math.prod(steps) > most_product:
            continue
        if most_shared is None or math.lcm(*steps) <= most_shared:
            found.append(steps)
    return found


def left_at(steps, rests, number):
    return sum(1 for step, rest in zip(steps, rests) if number % step == rest)


def cover_look(steps, rests):
    return all(left_at(steps, rests, number) for number in range(math.lcm(*steps)))


def all_rests(steps):
    return [rests for rests in itertools.product(*[range(step) for step in steps]) if cover_look(steps, rests)]


def is_rests(steps, thing):
    if type(thing) is not tuple or len(thing) != len(steps):
        return False
    return all(is_whole(rest) and rest in range(step) for step, rest in zip(steps, thing))


def cases_look(steps, thing, rests=None):
    """By the words of the point: what is set is kept in a dict from place to rest."""
    rests = rests or {}
    if type(thing) is not tuple or len(thing) != 2:
        return False
    number, papers = thing
    if not is_whole(number) or type(papers) is not tuple:
        return False
    if any((number - rest) % steps[place] == 0 for place, rest in rests.items()):
        return False
    unset = [place for place in range(len(steps)) if place not in rests]
    if len(unset) != len(papers):
        return False
    return all(cases_look(steps, paper, {**rests, place: number % steps[place]})
               for place, paper in zip(unset, papers))


def drawn_cases(source, steps, rests, reach):
    """A paper of cases with numbers drawn far off, None where one could not be found."""
    number = source.randint(-reach, reach)
    for turn in range(400):
        if not any(number % steps[place] == rest for place, rest in rests.items()):
            break
        number += 1
    else:
        return None
    papers = []
    for place in range(len(steps)):
        if place not in rests:
            papers.append(drawn_cases(source, steps, {**rests, place: number % steps[place]}, reach))
    return None if None in papers else (number, tuple(papers))


def bent_cases(source, paper):
    """Things that are like this paper, but for one thing somewhere."""
    number, papers = paper
    bent = [
        (number + 1, papers), (number - 1, papers), (number + source.randint(-40, 40), papers), (number, papers[1:]),
        (number, papers + papers[:1]), (number, papers + ((0, ()),)), (number, list(papers)), [number, papers],
        (number, papers, ()), (number,), (papers, number), (str(number), papers), (None, papers), (True, papers),
        (False, papers), (number, None), (number, 0), (number, papers[::-1]), None, (), number, (LONG, papers),
        (number, {0: papers}), ((number,), papers),
    ]
    if papers:
        place = source.randrange(len(papers))
        for inner in bent_cases(source, papers[place]):
            bent.append((number, papers[:place] + (inner,) + papers[place + 1:]))
    return bent


def moved_cases(paper, by):
    """The same paper with each number later by so much."""
    return (paper[0] + by, tuple(moved_cases(inner, by) for inner in paper[1]))


class Steps(unittest.TestCase):
    def no_steps(self):
        bad = [[], [2] * 7, [2, 3, 4, 5, 6, 7, 8], [1], [25], [2, 1], [2, 25], [24, 24, 0], [2, -2], [True], [2, True],
               [2, False], [2, None], [None], ["2"], [2, "3"], [[2]], [2, [3]], [(2,)], [{}], [2, LONG], [-LONG, 2],
               [2, 3, 4, 5, 6, 1], [25, 2, 3], [2.0], (2, 3), (), {}, {2: 3}, {0: 2}, "", "2", "[2]", None, True,
               False, 2, 0, -1, 24, LONG, [23, 19, 17, 13, 11, 25], [[2, 3], [4]], deep(lambda thing: [thing], 2)]
        # None of the lists among them is steps either.
        return bad + whatever()

    def test_what_is_no_steps_is_refused(self):
        for place, thing in enumerate(self.no_steps()):
            for ask in OF_STEPS:
                self.assertEqual(refusal(ask, thing), NO_NUMBER, (place, ask.__name__))
            for ask in OF_THING:
                for other in (None, (), (0,), (0, ()), thing):
                    self.assertEqual(refusal(ask, thing, other), NO_NUMBER, (place, ask.__name__))

    def test_lists_of_whatever(self):
        for place, thing in enumerate(whatever()):
            steps = [2, thing]
            if not (is_whole(thing) and 2 <= thing <= 24):
                for ask in OF_STEPS:
                    self.assertEqual(refusal(ask, steps), NO_NUMBER, place)
                for ask in OF_THING:
                    self.assertEqual(refusal(ask, steps, (0, 1)), NO_NUMBER, place)

    def test_no_number_goes_ahead_of_too_great(self):
        steps = PRIME_STEPS + [5]
        for ask in OF_STEPS:
            self.assertEqual(refusal(ask, steps), NO_NUMBER)
        for ask in OF_THING:
            self.assertEqual(refusal(ask, steps, (0,) * 7), NO_NUMBER)

    def test_the_edges_are_steps(self):
        for steps in ([2], [24], [2] * 6, [24] * 6, [2, 24], [24, 2, 24, 2, 24, 2]):
            self.assertIsNone(refusal(rests_for, steps))
            self.assertIsNone(refusal(steps_share, steps))
            self.assertIsNone(refusal(cases_for, steps))
            self.assertIs(cases_good(steps, None), False)
            self.assertIs(rests_good(steps, None), False)

    def test_the_steps_stay_as_they_were(self):
        for steps in ([6, 4, 3, 2, 12], [2, 2], [5], [24, 2, 3]):
            kept = list(steps)
            rests = rests_for(steps)
            paper = cases_for(steps)
            for ask in OF_STEPS:
                ask(steps)
            rests_good(steps, rests)
            cases_good(steps, paper)
            self.assertEqual(steps, kept)
            self.assertEqual(rests_for(steps), rests)
            steps.append(2)
            self.assertEqual(rests_for(kept), rests)
            self.assertEqual(cases_for(kept), paper)

    def test_too_great(self):
        self.assertEqual(math.lcm(*ABOVE_STEPS), 10010)
        for steps in (ABOVE_STEPS, PRIME_STEPS, [23, 19, 24], [2, 2] + [23, 19, 24]):
            looked = (TooGreat, {"many": math.lcm(*steps), "most": 10000})
            self.assertEqual(refusal(rests_for, steps), looked)
            self.assertEqual(refusal(cases_for, steps), looked)
            for thing in [None, (0,) * len(steps), (0, 1)] + whatever():
                self.assertEqual(refusal(rests_good, steps, thing), looked)
            self.assertIsNone(refusal(cases_good, steps, None))
        self.assertEqual(math.lcm(*NEAR), 9945)
        for steps in (NEAR, [22, 21, 20, 2], [24, 23, 18, 2, 2], [19, 22, 23, 2, 2], [20, 22, 21, 15, 2, 2]):
            self.assertLessEqual(math.lcm(*steps), 10000)
            self.assertIsNone(refusal(rests_for, steps))
            self.assertIsNone(refusal(cases_for, steps))


class Rests(unittest.TestCase):
    def test_rests_good_of_whatever(self):
        for steps in ([2], [2, 2], [2, 3], [7, 2, 2], [3, 3, 3], [2, 4, 4], UNLIKE_STEPS):
            for place, thing in enumerate(whatever()):
                good = is_rests(steps, thing) and cover_look(steps, thing)
                self.assertIs(rests_good(steps, thing), good, place)

    def test_rests_good(self):
        for steps in ([2], [2, 2], [3, 2], [2, 4, 4], [4, 2, 4], [3, 3, 3], [2, 3, 6], [2, 2, 5]):
            for rests in itertools.product(*[range(-1, step + 1) for step in steps]):
                good = is_rests(steps, rests) and cover_look(steps, rests)
                self.assertIs(rests_good(steps, rests), good)
                self.assertIs(rests_good(steps, list(rests)), False)
                self.assertIs(rests_good(steps, rests[1:]), False)
                self.assertIs(rests_good(steps, rests + (0,)), False)

    def test_truths_and_other_things(self):
        self.assertIs(rests_good([2, 2], (0, 1)), True)
        self.assertIs(rests_good([2, 2], (1, 0)), True)
        for thing in [(False, True), (0, True), (False, 1), (0, "1"), (0, None), (0, 1, None), [0, 1], (0, 3), (2, 1),
                      (0, -1), (0, LONG), (-LONG, 1), {0: 1}, ((0, 1),), (0, (1,)), "01"]:
            self.assertIs(rests_good([2, 2], thing), False)

    def test_rests_good_against_a_look(self):
        source = random.Random(51)
        found = {True: 0, False: 0}
        for steps in steps_of(52, 300, 6, 24, None, 3000) + steps_of(53, 300, 6, 5):
            rests = tuple(source.randrange(step) for step in steps)
            good = cover_look(steps, rests)
            found[good] += 1
            self.assertIs(rests_good(steps, rests), good)
        self.assertGreater(min(found.values()), 20)

    def test_rests_for_the_first(self):
        found = {True: 0, False: 0}
        for steps in steps_of(54, 150, 6, 6, 1500) + steps_of(55, 60, 4, 12, 2000) + [[2], [24], [2, 2], [3, 2, 6, 2]]:
            looked = all_rests(steps)
            told = rests_for(steps)
            self.assertEqual(told, looked[0] if looked else None)
            found[told is not None] += 1
            if told is not None:
                self.assertIs(rests_good(steps, told), True)
        self.assertGreater(min(found.values()), 40)

    def test_known(self):
        self.assertIsNone(rests_for([2]))
        self.assertEqual(rests_for([2, 2]), (0, 1))
        self.assertEqual(rests_for([24, 2, 2]), (0, 0, 1))
        self.assertEqual(rests_for([2, 2, 24]), (0, 1, 0))
        self.assertEqual(rests_for([2, 4, 4]), (0, 1, 3))
        self.assertIsNone(rests_for([2, 3, 6]))
        self.assertEqual(rests_for([6] * 6), (0, 1, 2, 3, 4, 5))
        told = rests_for(UNLIKE_STEPS)
        self.assertTrue(cover_look(UNLIKE_STEPS, told))
        self.assertEqual(told, all_rests(UNLIKE_STEPS)[0])

    def test_six_great_steps(self):
        for steps in ([2, 8, 24, 12, 3, 4], [24, 24, 8, 2, 12, 3], [2, 23, 20, 2, 10, 5], [20, 4, 6, 3, 21, 2]):
            told = rests_for(steps)
            if told is None:
                self.assertTrue(cases_look(steps, cases_for(steps)))
            else:
                self.assertTrue(cover_look(steps, told))


class Many(unittest.TestCase):
    def test_against_all_rests(self):
        for steps in steps_of(56, 120, 6, 6, 800) + steps_of(57, 30, 4, 24, 800) + [[2], [24], [2] * 6, [3] * 6]:
            told = rests_many(steps)
            self.assertEqual(told, len(all_rests(steps)))
            self.assertTrue(is_whole(told))

    def test_known(self):
        self.assertEqual(rests_many([2]), 0)
        self.assertEqual(rests_many([2, 2]), 2)
        self.assertEqual(rests_many([3, 3, 3]), 6)
        self.assertEqual(rests_many([2, 3, 6]), 0)
        self.assertEqual(rests_many([2] * 6), 62)
        self.assertEqual(rests_many([2, 2, 24]), 48)

    def test_too_great(self):
        self.assertEqual(rests_many([2, 3, 5, 10, 10]), 0)
        self.assertEqual(rests_many([3, 10, 10, 10]), 0)
        self.assertEqual(rests_many([2, 2, 5, 15, 10]), 2 * 750)
        for steps in ([7, 11, 13, 3], [19, 2, 2, 4, 10], [2, 19, 4, 20], [2, 2, 8, 8, 12], [24] * 6, PRIME_STEPS):
            looked = (TooGreat, {"many": math.prod(steps), "most": 3000})
            self.assertEqual(refusal(rests_many, steps), looked)

    def test_share(self):
        self.assertEqual(steps_share([2]), (1, 2))
        self.assertEqual(steps_share([2, 2]), (1, 1))
        self.assertEqual(steps_share([2, 2, 2, 2]), (2, 1))
        self.assertEqual(steps_share([6, 3]), (1, 2))
        for steps in steps_of(58, 300, 6, 24) + [PRIME_STEPS, [24] * 6, [23, 22, 21, 19, 17, 13]]:
            whole = sum(fractions.Fraction(1, step) for step in steps)
            self.assertEqual(steps_share(steps), (whole.numerator, whole.denominator))


class Cases(unittest.TestCase):
    def both(self, steps, thing):
        good = cases_look(steps, thing)
        self.assertIs(cases_good(steps, thing), good)
        return good

    def test_whatever(self):
        more = [(0, ()), (0, ((1, ()),)), (0, ((1, ()), (1, ()))), (5, ((6, ()),)), (LONG, ((LONG + 1, ()),)),
                (0, ((2, ()),)), (0, [(1, ())]), [0, ((1, ()),)], (False, ((1, ()),)), (0, ((True, ()),)),
                (0, ((1, []),)), (0, ((1, (2, ())),)), deep(lambda thing: (1, (thing,)), ()),
                deep(lambda thing: (0, (thing, thing)), (1, ()), 24)]
        for steps in ([2], [3], [2, 2], [2, 3], [3, 4, 5], [24] * 6, PRIME_STEPS):
            for thing in whatever() + more:
                self.both(steps, thing)

    def test_known(self):
        self.assertIs(cases_good([2], (0, ((1, ()),))), True)
        self.assertIs(cases_good([2], (0, ((2, ()),))), False)
        self.assertIs(cases_good([2], (7, ((-4, ()),))), True)
        self.assertIs(cases_good([2], (-3, ((10 ** 99, ()),))), True)
        self.assertIs(cases_good([2], (-3, ((10 ** 99 - 1, ()),))), False)
        self.assertIs(cases_good([2], (0, ())), False)
        self.assertIs(cases_good([2], (0, ((1, ((0, ()),)),))), False)
        self.assertIs(cases_good([2, 3], (0, ((1, ((2 + 3, ()),)), (1, ((1, ()),))))), False)
        self.assertIs(cases_good([2, 3], (0, ((1, ((3, ()),)), (1, ((2, ()),))))), True)
        self.assertIs(cases_good([2, 3], (0, ((1, ((3, ()),)), (2, ((1, ()),))))), True)

    def test_told_and_bent(self):
        source = random.Random(59)
        found = {True: 0, False: 0}
        told = 0
        for steps in steps_of(60, 60, 5, 24, None, 10000) + [[2], [24], [2, 3], [3, 2], [2, 3, 6]]:
            paper = cases_for(steps)
            if paper is None:
                self.assertTrue(cover_look(steps, rests_for(steps)))
                continue
            told += 1
            self.assertTrue(self.both(steps, paper))
            shared = math.lcm(*steps)
            self.assertTrue(self.both(steps, moved_cases(paper, shared)))
            self.assertTrue(self.both(steps, moved_cases(paper, -shared * 10 ** 90)))
            self.assertTrue(self.both(steps, moved_cases(paper, FAR)))
            for turn in range(3):
                for bent in bent_cases(source, paper):
                    found[self.both(steps, bent)] += 1
        self.assertGreater(told, 30)
        self.assertGreater(min(found.values()), 20)

    def test_papers_that_others_made(self):
        source = random.Random(61)
        made = 0
        for steps in steps_of(62, 60, 4, 24) + [[23, 19, 17, 13, 11]]:
            paper = drawn_cases(source, steps, {}, source.choice((5, 1000, FAR)))
            if paper is not None:
                made += 1
                self.assertTrue(self.both(steps, paper))
                for bent in bent_cases(source, paper):
                    self.both(steps, bent)
        self.assertGreater(made, 30)

    def test_six_steps(self):
        for steps in ([24] * 6, [20, 4, 6, 3, 21, 2], [7, 7, 7, 7, 7, 7], NEAR):
            paper = cases_for(steps)
            self.assertTrue(self.both(steps, paper))
            self.assertFalse(self.both(steps[1:], paper))
            self.assertFalse(self.both(steps[1:] + [2 if steps[0] != 2 else 3], (paper[0], paper[1][1:])))
        self.assertIs(cases_good(PRIME_STEPS, None), False)
        self.assertTrue(self.both(PRIME_STEPS, drawn_cases(random.Random(63), PRIME_STEPS, {}, LONG)))

    def test_none_where_some_cover(self):
        for steps in ([2, 2], UNLIKE_STEPS, [6] * 6, [2, 4, 4], [23, 2, 19, 2], [2] * 6):
            self.assertIsNone(cases_for(steps))
            self.assertIsNone(refusal(cases_for, steps))

    def test_all_papers_of_two_steps(self):
        leaves = [(number, ()) for number in range(-2, 4)]
        middles = [(number, (leaf,)) for number in range(-2, 4) for leaf in leaves]
        for steps in ([2, 2], [2, 3], [3, 2], [4, 2]):
            good = 0
            for number, one, other in itertools.product(range(-1, 2), middles, middles):
                good += self.both(steps, (number, (one, other)))
            self.assertIs(good > 0, steps != [2, 2])


class So(unittest.TestCase):
    def test_rests_or_cases(self):
        for steps in steps_of(65, 120, 5, 8, 2000) + steps_of(66, 40, 6, 24, None, 10000):
            told = rests_for(steps)
            paper = cases_for(steps)
            self.assertIs(told is None, paper is not None)
            if steps_share(steps)[0] < steps_share(steps)[1]:
                self.assertIsNone(told)

    def test_another_order(self):
        source = random.Random(67)
        for steps in steps_of(68, 40, 5, 8, 1000):
            many = rests_many(steps)
            for turn in range(3):
                other = source.sample(steps, len(steps))
                self.assertEqual(rests_many(other), many)
                self.assertIs(rests_for(other) is None, many == 0)

    def test_one_step_more_or_one_that_divides(self):
        for steps in steps_of(69, 200, 5, 8, 1500):
            if rests_for(steps) is not None:
                for step in (2, 5, 8, 24):
                    self.assertIsNotNone(rests_for(steps + [step]))
                    self.assertIsNotNone(rests_for([step] + steps))
                for place, step in enumerate(steps):
                    for part in range(2, step):
                        if step % part == 0:
                            self.assertIsNotNone(rests_for(steps[:place] + [part] + steps[place + 1:]))

    def test_a_share_of_one(self):
        found = 0
        for many in range(1, 6):
            for steps in itertools.combinations_with_replacement(range(2, 13), many):
                if sum(fractions.Fraction(1, step) for step in steps) == 1:
                    self.assertEqual(steps_share(list(steps)), (1, 1))
                    told = rests_for(list(steps))
                    if told is not None:
                        found += 1
                        for number in range(math.lcm(*steps)):
                            self.assertEqual(left_at(steps, told, number), 1)
        self.assertGreater(found, 10)


if __name__ == "__main__":
    unittest.main()
