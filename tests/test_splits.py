import itertools
import math
import random
import unittest

from coverclocks.clocks import clocks_good, met_all
from coverclocks.errors import NoPlace, TooGreat
from coverclocks.splits import join_at, joins_of, split_at, split_good, split_paper
from tests.helper import (
    BOX, GREAT, HALVED, HALVES, LONG, TWELFTHS, UNLIKE, all_clocks, count, deep, exact_look, is_place, is_whole,
    made_look, parts_look, refusal, round_great, small_clocks, some_clocks, split_drawn, whatever, whole_look,
)

NO_PLACE = (NoPlace, {})


def split_look(clocks, place, k):
    """What split_at is to tell, or the refusal."""
    if not is_place(clocks, place):
        return NO_PLACE
    found = set(clocks)
    found.remove(clocks[place])
    found.update(parts_look(clocks[place], k))
    if len(found) > 12:
        return (TooGreat, {"many": len(found), "most": 12})
    if clocks[place][0] * k > 1000:
        return (TooGreat, {"many": clocks[place][0] * k, "most": 1000})
    return tuple(sorted(found))


def joins_look(clocks):
    found = []
    for many in range(2, len(clocks) + 1):
        for places in itertools.combinations(range(len(clocks)), many):
            if len({clocks[place][0] for place in places}) == 1 and whole_look(clocks, places) is not None:
                found.append(places)
    return sorted(found)


def is_paper(thing):
    if thing is None:
        return True
    if type(thing) is not tuple or len(thing) != 2 or not is_whole(thing[0]) or type(thing[1]) is not tuple:
        return False
    return thing[0] >= 2 and len(thing[1]) == thing[0] and all(is_paper(paper) for paper in thing[1])


def good_look(clocks, thing):
    return is_paper(thing) and sorted(made_look(thing)) == list(clocks)


def drawn_paper(source, levels, ks=(2, 2, 3, 4, 6)):
    if levels == 0 or source.random() < 0.4:
        return None
    k = source.choice(ks)
    return (k, tuple(drawn_paper(source, levels - 1, ks) for turn in range(k)))


def bent_papers(source, paper):
    """Papers and other things that are like this one, but for one thing somewhere."""
    if paper is None:
        return [(2, (None, None)), (1, (None,)), (), False, 0, [], "", (None,), (None, None), (0, ()), (LONG, ())]
    k, papers = paper
    bent = [
        (k + 1, papers), (k - 1, papers), (LONG, papers), (-k, papers), (str(k), papers), (None, papers),
        (k, papers + (None,)), (k, papers[1:]), (k + 1, papers + (None,)), (k - 1, papers[1:]), (k, list(papers)),
        [k, papers], (k, papers, ()), (k,), (k, papers[::-1]), (k, None), (k, {0: papers}), (True, papers[:1]),
        (papers, k), (k, papers[1:] + papers[:1]), None,
    ]
    place = source.randrange(k)
    for inner in bent_papers(source, papers[place]):
        bent.append((k, papers[:place] + (inner,) + papers[place + 1:]))
    return bent


def can_split(clocks, clock):
    """Whether any split paper makes these of the clock, with whatever k."""
    if clocks == [clock]:
        return True
    if clock in clocks or not clocks:
        return False
    for k in range(2, len(clocks) + 1):
        parts = [(clock[0] * k, clock[1] + clock[0] * turn) for turn in range(k)]
        inner = [[one for one in clocks if one[0] % part[0] == 0 and one[1] % part[0] == part[1]] for part in parts]
        if sum(len(some) for some in inner) == len(clocks):
            if all(can_split(some, part) for some, part in zip(inner, parts)):
                return True
    return False


def least_primes(paper):
    """Whether each k is the least prime that divides the steps of all that come of it by its step."""
    if paper is None:
        return True
    shared = math.gcd(*[made[0] for made in made_look(paper)])
    primes = [k for k in range(2, shared + 1) if shared % k == 0 and all(k % part for part in range(2, k))]
    return paper[0] == primes[0] and all(least_primes(part) for part in paper[1])


class SplitAt(unittest.TestCase):
    def check(self, clocks, place, k):
        looked = split_look(clocks, place, k)
        if looked[:1] in ((NoPlace,), (TooGreat,)):
            self.assertEqual(refusal(split_at, clocks, place, k), looked)
        else:
            told = split_at(clocks, place, k)
            self.assertEqual(told, looked)
            self.assertIs(clocks_good(told), True)

    def test_small(self):
        for clocks in small_clocks():
            for place in range(len(clocks)):
                for k in (2, 3, 4):
                    self.check(clocks, place, k)

    def test_greater(self):
        for clocks in some_clocks(41, 60, 400, 12) + [UNLIKE, TWELFTHS, HALVED]:
            for place in range(-1, len(clocks) + 1):
                for k in (2, 3, 5, 11, 12, 13):
                    self.check(clocks, place, k)

    def test_known(self):
        self.assertEqual(split_at(((1, 0),), 0, 2), ((2, 0), (2, 1)))
        self.assertEqual(split_at(((2, 0), (2, 1)), 1, 3), ((2, 0), (6, 1), (6, 3), (6, 5)))
        self.assertEqual(split_at(((2, 1), (3, 0)), 0, 2), ((3, 0), (4, 1), (4, 3)))
        self.assertEqual(split_at(((500, 3),), 0, 2), ((1000, 3), (1000, 503)))

    def test_what_would_stand_twice(self):
        self.assertEqual(split_at(((2, 0), (4, 0)), 0, 2), ((4, 0), (4, 2)))
        self.assertEqual(split_at(((2, 0), (4, 0), (4, 1), (4, 2)), 0, 2), ((4, 0), (4, 1), (4, 2)))
        # Twelve at last, though eleven and eleven parts would be more.
        clocks = ((1, 0),) + tuple((12, rest) for rest in range(11))
        self.assertEqual(len(clocks), 12)
        self.assertEqual(split_at(clocks, 0, 12), TWELFTHS)

    def test_how_many(self):
        self.assertEqual(split_at(((1, 0),), 0, 12), TWELFTHS)
        self.assertEqual(refusal(split_at, ((1, 0),), 0, 13), (TooGreat, {"many": 13, "most": 12}))
        self.assertEqual(refusal(split_at, TWELFTHS, 3, 2), (TooGreat, {"many": 13, "most": 12}))
        self.assertEqual(refusal(split_at, TWELFTHS, 3, 1000), (TooGreat, {"many": 1011, "most": 12}))
        self.assertEqual(refusal(split_at, ((1, 0),), 0, 1000), (TooGreat, {"many": 1000, "most": 12}))
        twice = ((1, 0), (1000, 3), (1000, 999))
        self.assertEqual(refusal(split_at, twice, 0, 1000), (TooGreat, {"many": 1000, "most": 12}))
        self.assertEqual(refusal(split_at, twice, 0, 999), (TooGreat, {"many": 1001, "most": 12}))

    def test_the_parts_step(self):
        self.assertEqual(refusal(split_at, ((501, 3),), 0, 2), (TooGreat, {"many": 1002, "most": 1000}))
        self.assertEqual(refusal(split_at, ((2, 0), (1000, 3)), 1, 11), (TooGreat, {"many": 11000, "most": 1000}))
        self.assertEqual(refusal(split_at, ((1000, 3),), 0, 12), (TooGreat, {"many": 12000, "most": 1000}))

    def test_how_many_goes_ahead_of_the_step(self):
        self.assertEqual(refusal(split_at, ((1000, 3),), 0, 13), (TooGreat, {"many": 13, "most": 12}))
        self.assertEqual(refusal(split_at, GREAT, 0, 2), (TooGreat, {"many": 13, "most": 12}))
        self.assertEqual(refusal(split_at, GREAT[1:], 10, 2), (TooGreat, {"many": 1994, "most": 1000}))

    def test_no_place_goes_ahead_of_all(self):
        more = [12, -12, 10 ** 99, "0", [0], (0,), {0: 0}, True, False, None]
        for clocks in ((), ((1, 0),), HALVES, TWELFTHS, GREAT, ((1000, 3),)):
            for place, thing in enumerate(whatever() + more):
                if not is_place(clocks, thing):
                    for k in (2, 13, 1000):
                        self.assertEqual(refusal(split_at, clocks, thing, k), NO_PLACE, place)

    def test_told_clocks_of_greater_steps(self):
        one = met_all(GREAT[:3])
        self.assertEqual(refusal(split_at, (one,), 0, 2), (TooGreat, {"many": 2 * one[0], "most": 1000}))
        self.assertEqual(split_at(((2, 0), one), 0, 2), ((4, 0), (4, 2), one))


class Joins(unittest.TestCase):
    def check(self, clocks):
        looked = joins_look(clocks)
        self.assertEqual(joins_of(clocks), looked)
        for places in looked:
            joined = set(clocks) - {clocks[place] for place in places} | {whole_look(clocks, places)}
            self.assertEqual(join_at(clocks, places), tuple(sorted(joined)))
        return looked

    def test_small(self):
        for clocks in small_clocks():
            self.check(clocks)

    def test_greater(self):
        source = random.Random(42)
        found = 0
        for turn in range(60):
            step = source.choice((6, 8, 9, 10, 12))
            world = [(step, rest) for rest in range(step)] + all_clocks(5)
            found += len(self.check(tuple(sorted(source.sample(world, source.randint(6, 10))))))
        for turn in range(20):
            found += len(self.check(split_drawn(source, 10, 48)))
        self.assertGreater(found, 60)

    def test_known(self):
        self.assertEqual(joins_of(()), [])
        self.assertEqual(joins_of(((1, 0),)), [])
        self.assertEqual(joins_of(HALVES), [(0, 1)])
        self.assertEqual(joins_of(((2, 0), (3, 1))), [])
        self.assertEqual(joins_of(tuple((4, rest) for rest in range(4))), [(0, 1, 2, 3), (0, 2), (1, 3)])
        self.assertEqual(join_at(tuple((4, rest) for rest in range(4)), (1, 3)), ((2, 1), (4, 0), (4, 2)))
        self.assertEqual(join_at(TWELFTHS, tuple(range(12))), ((1, 0),))
        self.assertEqual(len(joins_of(TWELFTHS)), 1 + 2 + 3 + 4 + 6)

    def test_where_the_one_clock_stands_already(self):
        self.assertEqual(join_at(((1, 0), (2, 0), (2, 1)), (1, 2)), ((1, 0),))
        self.assertEqual(join_at(((2, 0), (2, 1), (4, 0), (4, 2)), (2, 3)), ((2, 0), (2, 1)))

    def test_the_list_is_the_askers_own(self):
        joins_of(HALVES).clear()
        self.assertEqual(joins_of(HALVES), [(0, 1)])

    def test_whatever_for_the_places(self):
        more = [(0, 1, 2), (0, 1, 1), (0, 0, 1), (1, 0), (0, True), (False, 1), (False, True), [0, 1], (0, 1.0), (0,),
                (1,), (), {0: 1}, "01", ((0, 1),), (-2, -1), (-1, 0), (0, LONG), (0, 1, None), ("0", "1"), None, 0]
        for clocks in [(), ((1, 0),), HALVES, ((2, 0), (3, 0)), tuple((4, rest) for rest in range(4)), UNLIKE, GREAT]:
            for place, thing in enumerate(whatever() + more):
                good = type(thing) is tuple and all(is_place(clocks, one) for one in thing)
                good = good and list(thing) == sorted(set(thing)) and thing in joins_look(clocks)
                self.assertIs(refusal(join_at, clocks, thing) is None, good, place)
                if not good:
                    self.assertEqual(refusal(join_at, clocks, thing), NO_PLACE, place)

    def test_all_tuples_of_places(self):
        for clocks in [tuple((4, rest) for rest in range(4)), ((2, 0), (2, 1), (4, 0), (4, 2)),
                       ((3, 0), (6, 1), (6, 4), (6, 5))]:
            good = joins_look(clocks)
            for many in range(5):
                for thing in itertools.product(range(-1, 5), repeat=many):
                    self.assertEqual(refusal(join_at, clocks, thing), None if thing in good else NO_PLACE)
                    self.assertEqual(refusal(join_at, clocks, list(thing)), NO_PLACE)

    def test_told_clocks_of_greater_steps(self):
        step, rest = met_all(GREAT)
        clocks = tuple((step * 3, rest + step * turn) for turn in range(3))
        self.assertEqual(joins_of(clocks), [(0, 1, 2)])
        self.assertEqual(join_at(clocks, (0, 1, 2)), ((step, rest),))
        self.assertEqual(refusal(join_at, clocks, (0, 1)), NO_PLACE)


class SplitGood(unittest.TestCase):
    def both(self, clocks, thing):
        good = good_look(clocks, thing)
        self.assertIs(split_good(clocks, thing), good)
        return good

    def test_whatever(self):
        # Those that share their parts are far too wide for a look: they make no such clocks.
        wide = [deep(lambda thing: (2, (thing, thing)), None, 24), deep(lambda thing: (3, (thing,) * 3), 0, 24),
                deep(lambda thing: (2, (None, thing)), None, 24), deep(lambda thing: (2, (thing, None)), "", 24)]
        for clocks in [(), ((1, 0),), HALVES, ((2, 0),), TWELFTHS, HALVED, GREAT]:
            for thing in whatever():
                self.both(clocks, thing)
            for place, thing in enumerate(wide):
                self.assertIs(split_good(clocks, thing), False, place)

    def test_some(self):
        self.assertIs(split_good(((1, 0),), None), True)
        self.assertIs(split_good((), None), False)
        self.assertIs(split_good(HALVES, (2, (None, None))), True)
        self.assertIs(split_good(HALVES, None), False)
        self.assertIs(split_good(((1, 0),), (2, (None, None))), False)
        self.assertIs(split_good(((2, 0), (4, 1), (4, 3)), (2, (None, (2, (None, None))))), True)
        self.assertIs(split_good(((2, 1), (4, 0), (4, 2)), (2, (None, (2, (None, None))))), False)
        self.assertIs(split_good(((2, 1), (4, 0), (4, 2)), (2, ((2, (None, None)), None))), True)
        self.assertIs(split_good(TWELFTHS, (12, (None,) * 12)), True)
        self.assertIs(split_good(TWELFTHS, (2, ((6, (None,) * 6),) * 2)), True)
        self.assertIs(split_good(TWELFTHS, (4, ((3, (None,) * 3),) * 4)), True)
        self.assertIs(split_good(BOX, (30, (None,) * 30)), False)

    def test_other_k(self):
        for k in (1, 0, -2, 3, True, False, None, "2", LONG, -LONG, (2,), [2], {}):
            self.assertIs(split_good(HALVES, (k, (None, None))), False)
            self.assertIs(split_good(((1, 0),), (k, (None,))), False)
            self.assertIs(split_good(((1, 0),), (k, ())), False)
            self.assertIs(split_good((), (k, ())), False)

    def test_papers_drawn_and_bent(self):
        source = random.Random(43)
        found = {True: 0, False: 0}
        for turn in range(300):
            paper = drawn_paper(source, 3)
            clocks = tuple(sorted(made_look(paper)))
            self.assertTrue(self.both(clocks, paper))
            for bent in bent_papers(source, paper):
                found[self.both(clocks, bent)] += 1
            for fewer in (clocks[1:], clocks[:-1], clocks + ((1001, 0),), tuple(sorted(clocks + ((7, 3),)))):
                self.assertFalse(self.both(fewer, paper))
        self.assertGreater(min(found.values()), 50)

    def test_against_all_small_clocks(self):
        source = random.Random(44)
        papers = [drawn_paper(source, 2, (2, 3, 4)) for turn in range(60)] + [None]
        for clocks in small_clocks():
            for paper in papers:
                self.both(clocks, paper)

    def test_clocks_with_some_that_meet(self):
        # The paper makes all of these, but others stand beside them.
        self.assertFalse(self.both(((1, 0), (2, 0), (2, 1)), (2, (None, None))))
        self.assertFalse(self.both(((2, 0), (2, 1), (4, 0)), (2, (None, None))))
        self.assertFalse(self.both(((2, 0), (2, 1), (4, 0), (4, 2)), (2, ((2, (None, None)), None))))
        self.assertFalse(self.both(((2, 0), (2, 1), (4, 0)), (2, ((2, (None, None)), None))))

    def test_fifty_deep(self):
        chain = deep(lambda thing: (2, (None, thing)), None, 9)
        self.assertTrue(self.both(HALVED, chain))
        self.assertFalse(self.both(HALVED, deep(lambda thing: (2, (thing, None)), None, 9)))
        long = deep(lambda thing: (2, (None, thing)), None, 24)
        self.assertTrue(self.both(tuple(sorted(made_look(long))), long))
        self.assertFalse(self.both(HALVED, deep(lambda thing: (2, (None, thing)), 0, 9)))

    def test_what_it_lets_by_is_exact(self):
        source = random.Random(45)
        for turn in range(60):
            clocks = tuple(sorted(made_look(drawn_paper(source, 2))))
            if round_great(clocks) < 2000:
                self.assertTrue(exact_look(clocks))


class SplitPaper(unittest.TestCase):
    def check(self, clocks):
        paper = split_paper(clocks)
        if clocks == ((1, 0),):
            self.assertIsNone(paper)
        elif can_split(list(clocks), (1, 0)):
            self.assertTrue(good_look(clocks, paper))
            self.assertTrue(least_primes(paper))
            self.assertIs(split_good(clocks, paper), True)
        else:
            self.assertIsNone(paper)
        return paper is not None

    def test_small(self):
        self.assertEqual(sum(self.check(clocks) for clocks in small_clocks()), 5)

    def test_some_and_drawn(self):
        source = random.Random(46)
        drawn = [split_drawn(source, 12, 1000, (2, 3, 4, 5, 6, 7)) for turn in range(150)]
        for clocks in drawn + [TWELFTHS, HALVED, HALVES]:
            self.assertIs(self.check(clocks), clocks != ((1, 0),))
            self.check(clocks[1:])
            self.check(clocks[:-1] + ((1000, 999),))
        for clocks in some_clocks(47, 100, 12, 12) + [UNLIKE, GREAT]:
            self.check(clocks)

    def test_known(self):
        self.assertIsNone(split_paper(()))
        self.assertIsNone(split_paper(((1, 0),)))
        self.assertIsNone(split_paper(((2, 0),)))
        self.assertIsNone(split_paper(((1, 0), (2, 0), (2, 1))))
        self.assertEqual(split_paper(HALVES), (2, (None, None)))
        fourths = (2, ((2, (None, None)), (2, (None, None))))
        self.assertEqual(split_paper(tuple((4, rest) for rest in range(4))), fourths)
        thirds = (3, (None, None, None))
        self.assertEqual(split_paper(tuple((6, rest) for rest in range(6))), (2, (thirds, thirds)))
        # All steps are divided by 3 and not by 2, and behind it by 2 in one part, by 5 in another one.
        clocks = tuple(sorted([(3, 0), (6, 1), (6, 4)] + [(15, rest) for rest in (2, 5, 8, 11, 14)]))
        self.assertEqual(split_paper(clocks), (3, (None, (2, (None, None)), (5, (None,) * 5))))

    def test_exact_clocks_that_no_split_makes(self):
        self.assertTrue(exact_look(BOX))
        self.assertFalse(can_split(list(BOX), (1, 0)))
        self.assertIsNone(split_paper(BOX))
        # Two such boxes side by side: the first split is there, the ones behind it are not.
        boxes = tuple(sorted((2 * step, 2 * rest + turn) for step, rest in BOX for turn in (0, 1)))
        self.assertIsNone(split_paper(boxes))
        beside = tuple(sorted([(2 * step, 2 * rest) for step, rest in BOX] + [(2, 1)]))
        self.assertTrue(exact_look(beside))
        self.assertIsNone(split_paper(beside))

    def test_told_clocks_of_greater_steps(self):
        step, rest = met_all(GREAT)
        self.assertIsNone(split_paper(((step, rest),)))
        self.assertIsNone(split_paper(tuple((step * 2, rest + step * turn) for turn in range(2))))
        self.assertIsNone(split_paper(HALVES + ((step, rest),)))
        chain = deep(lambda thing: (2, (None, thing)), None, 11)
        self.assertEqual(split_paper(tuple(sorted(made_look(chain)))), chain)


class So(unittest.TestCase):
    def test_split_clocks_ring_where_they_did(self):
        for clocks in list(small_clocks())[::3]:
            for place in range(len(clocks)):
                for k in (2, 3):
                    if len(clocks) + k <= 12:
                        told = split_at(clocks, place, k)
                        for number in range(-40, 40):
                            self.assertIs(count(told, number) > 0, count(clocks, number) > 0)

    def test_exact_clocks_stay_exact(self):
        source = random.Random(48)
        for turn in range(100):
            clocks = split_drawn(source, 10, 100)
            place = source.randrange(len(clocks))
            told = split_at(clocks, place, 2 + turn % 2)
            self.assertTrue(exact_look(told))
            self.assertIs(split_good(told, split_paper(told)), True)
            for places in joins_of(told):
                self.assertTrue(exact_look(join_at(told, places)))
            parts = tuple(told.index(part) for part in parts_look(clocks[place], 2 + turn % 2))
            self.assertEqual(join_at(told, parts), clocks)


if __name__ == "__main__":
    unittest.main()
