import unittest

from coverclocks import errors
from coverclocks.changed import put_in, put_together, stretched_by
from coverclocks.clocks import clocks_of
from coverclocks.covering import covers
from coverclocks.desk import Desk
from coverclocks.far import missed_ahead, next_missed, nth_missed, rung_below
from coverclocks.least import idle_of, least_good, lone_at
from coverclocks.splits import join_at, split_at
from coverclocks.texts import clocks_read
from coverclocks.wanted import cases_good, rests_for, rests_many, steps_share

PLAIN = (errors.NoClock, errors.NoNumber, errors.NoPlace, errors.NoRow)
ALL = PLAIN + (errors.NoClocks, errors.NoText, errors.TooGreat)


class Errors(unittest.TestCase):
    def test_each_stands_straight_under_clock_error(self):
        self.assertEqual(errors.ClockError.__bases__, (ValueError,))
        for refusal in ALL:
            self.assertEqual(refusal.__bases__, (errors.ClockError,))
        self.assertEqual(len(set(ALL)), 7)

    def test_plain_ones_are_made_of_nothing(self):
        for refusal in PLAIN:
            self.assertRaises(errors.ClockError, self.raised, refusal())

    def raised(self, error):
        raise error

    def test_fields(self):
        self.assertEqual(errors.NoClocks(3).number, 3)
        self.assertEqual(errors.NoText(4).row, 4)
        great = errors.TooGreat(10 ** 50, 12)
        self.assertEqual((great.many, great.most), (10 ** 50, 12))

    def test_a_refusal_is_of_its_own_class(self):
        with self.assertRaises(errors.NoClocks) as caught:
            clocks_of([None])
        self.assertEqual([kind for kind in ALL if isinstance(caught.exception, kind)], [errors.NoClocks])
        with self.assertRaises(errors.TooGreat) as caught:
            covers(((101, 0), (103, 0)))
        self.assertEqual([kind for kind in ALL if isinstance(caught.exception, kind)], [errors.TooGreat])

    def refused(self, kind, ask, *handed):
        with self.assertRaises(errors.ClockError) as caught:
            ask(*handed)
        self.assertEqual([known for known in ALL if isinstance(caught.exception, known)], [kind])
        return vars(caught.exception)

    def test_each_is_of_its_own_class_with_its_fields(self):
        great = ((101, 0), (103, 0))
        say = self.desk_of(great).say
        for ask, handed in [(lone_at, (great, 2)), (split_at, (great, None, 2)), (join_at, (great, (0, 1))),
                            (put_in, (great, 2, ())), (say, ("split 2 2",)), (say, ("join 0 1",))]:
            self.assertEqual(self.refused(errors.NoPlace, ask, *handed), {})
        for ask, handed in [(rests_for, ([],)), (rests_many, ([1],)), (steps_share, ((2,),)), (cases_good, (None, 0)),
                            (nth_missed, (((1, 0),), 0)), (missed_ahead, (((2, 0),), 2)), (say, ("split 0 1",))]:
            self.assertEqual(self.refused(errors.NoNumber, ask, *handed), {})
        for row in ("put 2 2", "drop 2 0"):
            self.assertEqual(self.refused(errors.NoClock, say, row), {})
        for row in (None, "", "nothing", "put 2"):
            self.assertEqual(self.refused(errors.NoRow, say, row), {})
        self.assertEqual(self.refused(errors.NoRow, Desk().say, "back"), {})
        self.assertEqual(self.refused(errors.NoClocks, say, "put 101 0"), {"number": 2})
        self.assertEqual(self.refused(errors.NoText, clocks_read, None), {"row": 0})
        self.assertEqual(self.refused(errors.NoText, clocks_read, "clocks 1"), {"row": 2})

    def desk_of(self, clocks):
        desk = Desk()
        for step, rest in clocks:
            desk.say(f"put {step} {rest}")
        return desk

    def test_what_is_too_great(self):
        great = ((101, 0), (103, 0))
        say = self.desk_of(great).say
        eleven = tuple((11, rest) for rest in range(11))
        for ask, handed, many, most in [
            (idle_of, (great,), 10403, 10000), (lone_at, (great, 1), 10403, 10000),
            (least_good, (great, None), 10403, 10000), (split_at, (great, 0, 12), 13, 12),
            (split_at, (great, 0, 11), 1111, 1000), (rests_for, ([23, 19, 24],), 10488, 10000),
            (rests_many, ([15, 15, 15],), 3375, 3000), (rung_below, (eleven, 5), 11, 10),
            (next_missed, (eleven, 0), 11, 10), (nth_missed, (eleven, 0), 11, 10),
            (missed_ahead, (eleven, None), 11, 10), (stretched_by, (great, (10, 3)), 1030, 1000),
            (put_in, (great, 0, eleven + great), 14, 12), (put_in, (great, 0, eleven), 1111, 1000),
            (put_together, (great, eleven), 13, 12), (say, ("covers",), 10403, 10000), (say, ("tally",), 10403, 10000),
            (say, ("idle",), 10403, 10000), (say, ("fewest",), 10403, 10000), (say, ("split 1 12",), 13, 12),
            (say, ("split 1 10",), 1030, 1000),
        ]:
            self.assertEqual(self.refused(errors.TooGreat, ask, *handed), {"many": many, "most": most})


if __name__ == "__main__":
    unittest.main()
