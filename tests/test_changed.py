import random
import unittest

from coverclocks.changed import mirrored_of, put_in, put_together, seen_in, stretched_by
from coverclocks.clocks import clocks_good, met_all
from coverclocks.errors import NoPlace, TooGreat
from tests.helper import (
    BOX, FAR, GREAT, HALVED, HALVES, LONG, TWELFTHS, UNLIKE, all_clocks, count, counts_look, exact_look, is_place,
    mirror_look, parts_look, refusal, round_great, rung, small_clocks, some_clocks, split_drawn, whatever,
)

NO_PLACE = (NoPlace, {})
NUMBERS = range(-30, 31)
# Steps at the edge: these two may be stretched by 2 and by 1 alone.
WIDE = ((500, 499),)
WIDEST = ((7, 3), (1000, 0), (1000, 999))


def too_great(many, most):
    return (TooGreat, {"many": many, "most": most})


def stretched_look(clocks, by):
    """For each clock, that rings at some n, the one that rings at rest and step times this n."""
    found = []
    for clock in clocks:
        step = clock[0] * by[0]
        numbers = [by[1] + by[0] * n for n in range(clock[0]) if rung(clock, n)]
        found.append((step, numbers[0]))
    return tuple(sorted(found))


def stretched_told(clocks, by):
    """What stretched_by is to tell, or its refusal."""
    greatest = max([clock[0] * by[0] for clock in clocks], default=0)
    if greatest > 1000:
        return too_great(greatest, 1000)
    return stretched_look(clocks, by)


def seen_look(clocks, by):
    """Tries the numbers of the one clock, one behind the other: the step is from one that is rung to the next."""
    found = set()
    for clock in clocks:
        rung_ones = [n for n in range(2 * clock[0]) if rung(clock, by[1] + by[0] * n)]
        if rung_ones:
            found.add((rung_ones[1] - rung_ones[0], rung_ones[0]))
    return tuple(sorted(found))


def put_look(clocks, place, others):
    """What put_in is to tell, or its refusal."""
    if not is_place(clocks, place):
        return NO_PLACE
    put = stretched_look(others, clocks[place])
    found = set(clocks) - {clocks[place]} | set(put)
    if len(found) > 12:
        return too_great(len(found), 12)
    greatest = max([clock[0] for clock in put], default=0)
    if greatest > 1000:
        return too_great(greatest, 1000)
    return tuple(sorted(found))


def missed_look(clocks, many):
    return [number for number in range(-many, many) if count(clocks, number) == 0]


class Changed(unittest.TestCase):
    def both(self, looked, ask, *handed):
        """The answer or the refusal is what was looked for."""
        if looked[:1] in ((NoPlace,), (TooGreat,)):
            self.assertEqual(refusal(ask, *handed), looked)
        else:
            told = ask(*handed)
            self.assertEqual(told, looked)
            self.assertIs(clocks_good(told), True)


class Mirrored(Changed):
    def test_small(self):
        for clocks in small_clocks():
            told = mirrored_of(clocks)
            self.both(mirror_look(clocks), mirrored_of, clocks)
            for number in range(-12, 13):
                self.assertEqual(count(told, number), count(clocks, -number))

    def test_greater(self):
        for clocks in some_clocks(81, 100, 1000, 12) + [GREAT, UNLIKE, HALVED, TWELFTHS, WIDEST]:
            self.both(mirror_look(clocks), mirrored_of, clocks)
            for number in list(NUMBERS) + [FAR, -FAR]:
                self.assertEqual(count(mirrored_of(clocks), number), count(clocks, -number))

    def test_known(self):
        self.assertEqual(mirrored_of(()), ())
        self.assertEqual(mirrored_of(((1, 0),)), ((1, 0),))
        self.assertEqual(mirrored_of(((3, 1), (5, 0), (7, 1), (7, 5))), ((3, 2), (5, 0), (7, 2), (7, 6)))
        self.assertEqual(mirrored_of(WIDEST), ((7, 4), (1000, 0), (1000, 1)))

    def test_told_clocks_of_greater_steps(self):
        step, rest = met_all(GREAT)
        self.assertEqual(mirrored_of(((2, 1), (step, rest))), ((2, 1), (step, step - rest)))

    def test_twice(self):
        for clocks in some_clocks(82, 60, 1000, 12) + [GREAT, (met_all(GREAT),), ()]:
            self.assertEqual(mirrored_of(mirrored_of(clocks)), clocks)


class Stretched(Changed):
    def test_small(self):
        for clocks in list(small_clocks())[::7]:
            for by in all_clocks(4):
                self.both(stretched_told(clocks, by), stretched_by, clocks, by)
                told = stretched_by(clocks, by)
                for number in NUMBERS:
                    if rung(by, number):
                        self.assertEqual(count(told, number), count(clocks, (number - by[1]) // by[0]))
                    else:
                        self.assertEqual(count(told, number), 0)

    def test_greater(self):
        source = random.Random(83)
        refused = 0
        for clocks in some_clocks(84, 200, 60, 12) + [GREAT, UNLIKE, HALVED, TWELFTHS, WIDE, WIDEST]:
            for turn in range(4):
                step = source.choice((1, 2, 3, 10, 16, 17, 83, 1000))
                by = (step, source.randrange(step))
                looked = stretched_told(clocks, by)
                refused += looked[:1] == (TooGreat,)
                self.both(looked, stretched_by, clocks, by)
        self.assertGreater(refused, 50)

    def test_known(self):
        self.assertEqual(stretched_by(((1, 0),), (7, 3)), ((7, 3),))
        self.assertEqual(stretched_by(((2, 0), (2, 1)), (3, 1)), ((6, 1), (6, 4)))
        self.assertEqual(stretched_by(((2, 0), (3, 2)), (1, 0)), ((2, 0), (3, 2)))

    def test_no_clocks(self):
        for by in ((1, 0), (2, 1), (1000, 999), met_all(GREAT)):
            self.assertEqual(stretched_by((), by), ())

    def test_the_greatest_step(self):
        self.assertEqual(stretched_by(WIDE, (2, 1)), ((1000, 999),))
        self.assertEqual(stretched_by(((1, 0),), (1000, 999)), ((1000, 999),))
        self.assertEqual(stretched_by(WIDEST, (1, 0)), WIDEST)
        self.assertEqual(refusal(stretched_by, WIDEST, (2, 1)), too_great(2000, 1000))
        self.assertEqual(refusal(stretched_by, ((7, 0), (11, 0), (13, 5)), (77, 3)), too_great(1001, 1000))
        self.assertEqual(refusal(stretched_by, WIDEST, (1000, 0)), too_great(1000000, 1000))
        self.assertEqual(refusal(stretched_by, ((2, 0), (501, 3)), (2, 0)), too_great(1002, 1000))

    def test_told_clocks_of_greater_steps(self):
        met = met_all(GREAT)
        self.assertEqual(refusal(stretched_by, ((2, 0), met), (3, 1)), too_great(3 * met[0], 1000))
        self.assertEqual(refusal(stretched_by, HALVES, met), too_great(2 * met[0], 1000))

    def test_stretched_and_seen(self):
        for clocks in some_clocks(85, 100, 60, 12) + [(), TWELFTHS, HALVES, WIDE]:
            for by in ((1, 0), (2, 0), (2, 1), (16, 11)):
                if stretched_told(clocks, by)[:1] != (TooGreat,):
                    self.assertEqual(seen_in(stretched_by(clocks, by), by), clocks)


class Seen(Changed):
    def check(self, clocks, by):
        told = seen_in(clocks, by)
        self.both(seen_look(clocks, by), seen_in, clocks, by)
        for n in NUMBERS:
            self.assertEqual(count(told, n) > 0, count(clocks, by[1] + by[0] * n) > 0)

    def test_small(self):
        for clocks in list(small_clocks())[::5]:
            for by in all_clocks(6):
                self.check(clocks, by)

    def test_greater(self):
        source = random.Random(86)
        for clocks in some_clocks(87, 150, 200, 12) + [GREAT, UNLIKE, HALVED, TWELFTHS, WIDEST, BOX[:12]]:
            for turn in range(4):
                step = source.choice((1, 2, 3, 6, 10, 12, 100, 1000))
                self.check(clocks, (step, source.randrange(step)))

    def test_known(self):
        self.assertEqual(seen_in(((2, 0), (3, 0)), (2, 0)), ((1, 0), (3, 0)))
        self.assertEqual(seen_in(((2, 0), (3, 0)), (2, 1)), ((3, 1),))
        self.assertEqual(seen_in(((4, 1), (6, 3)), (4, 1)), ((1, 0), (3, 2)))
        self.assertEqual(seen_in(UNLIKE, (1, 0)), UNLIKE)
        self.assertEqual(seen_in((), (5, 2)), ())

    def test_clocks_that_never_meet_it(self):
        self.assertEqual(seen_in(((2, 1), (4, 0), (6, 2)), (6, 0)), ((2, 0),))
        self.assertEqual(seen_in(((2, 1), (4, 1), (6, 2), (6, 4)), (6, 0)), ())
        self.assertEqual(seen_in(((1000, 3), (1000, 7)), (1000, 7)), ((1, 0),))

    def test_what_would_stand_twice(self):
        self.assertEqual(seen_in(((1, 0), (2, 0), (3, 0), (6, 0)), (6, 0)), ((1, 0),))
        self.assertEqual(seen_in(((4, 0), (12, 0), (12, 4), (12, 8)), (3, 0)), ((4, 0),))
        self.assertEqual(seen_in(((4, 0), (12, 0), (36, 0)), (9, 0)), ((4, 0),))

    def test_the_least_step(self):
        self.assertEqual(seen_in(((12, 3), (18, 3)), (9, 3)), ((2, 0), (4, 0)))
        self.assertEqual(seen_in(((1000, 10),), (10, 0)), ((100, 1),))
        self.assertEqual(seen_in(((997, 10),), (10, 0)), ((997, 1),))

    def test_told_clocks_of_greater_steps(self):
        met = met_all(GREAT)
        self.assertEqual(seen_in(GREAT, met), ((1, 0),))
        told = seen_in((met,), GREAT[0])
        self.assertEqual(told[0][0], met[0] // GREAT[0][0])
        self.assertEqual(GREAT[0][1] + GREAT[0][0] * told[0][1], met[1])

    def test_cover_just_where_they_do_in_each_part(self):
        found = {True: 0, False: 0}
        drawn = [split_drawn(random.Random(seed), 12, 60) for seed in range(30)]
        for clocks in some_clocks(88, 150, 6, 8, 400) + drawn + [UNLIKE, HALVES, (), TWELFTHS]:
            covered = 0 not in counts_look(clocks)
            found[covered] += 1
            for k in range(2, 7):
                seen = [seen_in(clocks, part) for part in parts_look((1, 0), k)]
                self.assertEqual(covered, all(0 not in counts_look(within) for within in seen))
        self.assertGreater(min(found.values()), 30)


class PutIn(Changed):
    def test_drawn(self):
        source = random.Random(89)
        kinds = {}
        for turn in range(1500):
            clocks = source.choice(some_clocks(source.random(), 3, source.choice((4, 12, 400)), 12))
            others = source.choice(some_clocks(source.random(), 3, source.choice((3, 4, 30)), 6))
            place = source.randint(-1, len(clocks))
            looked = put_look(clocks, place, others)
            key = looked[1]["most"] if looked[:1] == (TooGreat,) else looked == NO_PLACE
            kinds[key] = kinds.get(key, 0) + 1
            self.both(looked, put_in, clocks, place, others)
        self.assertEqual(sorted(kinds), [False, True, 12, 1000])
        self.assertGreater(min(kinds.values()), 40)

    def test_known(self):
        self.assertEqual(put_in(((1, 0),), 0, UNLIKE), UNLIKE)
        self.assertEqual(put_in(HALVES, 1, HALVES), ((2, 0), (4, 1), (4, 3)))
        self.assertEqual(put_in(((2, 1), (3, 0)), 0, ((3, 2),)), ((3, 0), (6, 5)))
        self.assertEqual(put_in(((2, 1), (3, 0)), 1, ((1, 0),)), ((2, 1), (3, 0)))

    def test_no_others(self):
        self.assertEqual(put_in(((1, 0),), 0, ()), ())
        self.assertEqual(put_in(HALVES, 0, ()), ((2, 1),))
        self.assertEqual(put_in(GREAT, 11, ()), GREAT[:11])
        self.assertEqual(put_in(WIDEST, 1, ()), ((7, 3), (1000, 999)))

    def test_what_would_stand_twice(self):
        self.assertEqual(put_in(((2, 0), (4, 0)), 0, HALVES), ((4, 0), (4, 2)))
        self.assertEqual(put_in(((2, 0), (4, 0), (4, 1), (4, 2)), 0, HALVES), ((4, 0), (4, 1), (4, 2)))
        # Twelve at last, though eleven and as many others would be more.
        clocks = ((1, 0),) + TWELFTHS[:11]
        self.assertEqual(put_in(clocks, 0, TWELFTHS[:11]), TWELFTHS[:11])
        self.assertEqual(put_in(clocks, 0, TWELFTHS), TWELFTHS)
        self.assertEqual(refusal(put_in, clocks, 0, TWELFTHS + ((13, 0),)), too_great(13, 12))

    def test_how_many(self):
        self.assertEqual(put_in(((1, 0),), 0, TWELFTHS), TWELFTHS)
        self.assertEqual(refusal(put_in, TWELFTHS, 3, HALVES), too_great(13, 12))
        self.assertEqual(refusal(put_in, TWELFTHS, 0, TWELFTHS), too_great(23, 12))
        self.assertEqual(refusal(put_in, HALVES, 0, TWELFTHS), too_great(13, 12))

    def test_the_greatest_stretched_step(self):
        self.assertEqual(put_in(((2, 0), (500, 3)), 1, HALVES), ((2, 0), (1000, 3), (1000, 503)))
        self.assertEqual(refusal(put_in, ((2, 0), (501, 3)), 1, HALVES), too_great(1002, 1000))
        self.assertEqual(refusal(put_in, ((2, 0), (501, 3)), 1, ((1, 0), (2, 0), (9, 1))), too_great(4509, 1000))
        # Those that stand beside it are not asked for their steps.
        met = met_all(GREAT)
        self.assertEqual(put_in(((2, 0), met), 0, HALVES), ((4, 0), (4, 2), met))
        self.assertEqual(put_in(((2, 0), met), 1, ()), ((2, 0),))
        self.assertEqual(refusal(put_in, ((2, 0), met), 1, ((1, 0),)), too_great(met[0], 1000))
        self.assertEqual(refusal(put_in, HALVES, 1, (met,)), too_great(2 * met[0], 1000))

    def test_how_many_goes_ahead_of_the_step(self):
        self.assertEqual(refusal(put_in, GREAT, 0, HALVES), too_great(13, 12))
        self.assertEqual(refusal(put_in, GREAT[1:], 0, HALVES), too_great(2 * GREAT[1][0], 1000))
        self.assertEqual(refusal(put_in, ((1000, 3),), 0, TWELFTHS + ((13, 2),)), too_great(13, 12))
        self.assertEqual(refusal(put_in, ((1000, 3),), 0, TWELFTHS), too_great(12000, 1000))

    def test_no_place_goes_ahead_of_all(self):
        more = [12, -12, LONG, -LONG, "0", [0], (0,), {0: 0}, True, False, None]
        for clocks in ((), ((1, 0),), HALVES, TWELFTHS, GREAT, WIDEST):
            for place, thing in enumerate(whatever() + more + [len(clocks), -1]):
                if not is_place(clocks, thing):
                    for others in ((), HALVES, TWELFTHS, GREAT):
                        self.assertEqual(refusal(put_in, clocks, thing, others), NO_PLACE, place)

    def test_others_that_cover_leave_what_is_covered(self):
        source = random.Random(90)
        asked = 0
        for clocks in some_clocks(91, 60, 8, 6, 300) + [HALVES, UNLIKE, ((1, 0),)]:
            for others in (HALVES, UNLIKE, ((1, 0),), ((1, 0), (2, 1)), ((2, 0), (3, 0), (6, 1), (6, 5))):
                for place in range(len(clocks)):
                    looked = put_look(clocks, place, others)
                    if looked[:1] != (TooGreat,):
                        many = round_great(clocks + looked)
                        self.assertEqual(missed_look(put_in(clocks, place, others), many), missed_look(clocks, many))
                        asked += 1
        self.assertGreater(asked, 300)
        for turn in range(60):
            clocks = split_drawn(source, 8, 60)
            place = source.randrange(len(clocks))
            self.assertTrue(exact_look(put_in(clocks, place, split_drawn(source, 5, 16))))


class PutTogether(Changed):
    def check(self, clocks, others):
        looked = tuple(sorted(set(clocks) | set(others)))
        if len(looked) > 12:
            looked = too_great(len(looked), 12)
        self.both(looked, put_together, clocks, others)
        self.both(looked, put_together, others, clocks)

    def test_drawn(self):
        drawn = some_clocks(92, 120, 5, 9) + some_clocks(93, 120, 1000, 9) + [(), HALVES, TWELFTHS, GREAT, WIDEST]
        source = random.Random(94)
        for clocks in drawn:
            for others in source.sample(drawn, 20) + [(), clocks, clocks[1:]]:
                self.check(clocks, others)

    def test_known(self):
        self.assertEqual(put_together((), ()), ())
        self.assertEqual(put_together(((2, 0), (4, 1)), ((2, 1), (4, 1))), ((2, 0), (2, 1), (4, 1)))
        self.assertEqual(put_together(TWELFTHS, TWELFTHS), TWELFTHS)
        self.assertEqual(put_together(TWELFTHS[:6], TWELFTHS[6:]), TWELFTHS)
        self.assertEqual(refusal(put_together, TWELFTHS, ((1, 0),)), too_great(13, 12))
        self.assertEqual(refusal(put_together, TWELFTHS, GREAT), too_great(24, 12))
        met = met_all(GREAT)
        self.assertEqual(put_together((met,), HALVES), HALVES + (met,))


if __name__ == "__main__":
    unittest.main()
