import unittest

from coverclocks import errors
from coverclocks.clocks import clocks_of
from coverclocks.covering import covers

PLAIN = (errors.NoClock, errors.NoNumber, errors.NoPlace, errors.NoRow)
ALL = PLAIN + (errors.NoClocks, errors.NoText, errors.TooGreat)


class Errors(unittest.TestCase):
    def test_each_stands_straight_under_clock_error(self):
        self.assertEqual(errors.ClockError.__bases__, (ValueError,))
        for refusal in ALL:
            self.assertEqual(refusal.__bases__, (errors.ClockError,))
        self.assertEqual(len(set(ALL)), 7)

    def test_plain_ones_are_made_of_nothing(self):
        for refusal in PLAIN:
            self.assertRaises(errors.ClockError, self.raised, refusal())

    def raised(self, error):
        raise error

    def test_fields(self):
        self.assertEqual(errors.NoClocks(3).number, 3)
        self.assertEqual(errors.NoText(4).row, 4)
        great = errors.TooGreat(10 ** 50, 12)
        self.assertEqual((great.many, great.most), (10 ** 50, 12))

    def test_a_refusal_is_of_its_own_class(self):
        with self.assertRaises(errors.NoClocks) as caught:
            clocks_of([None])
        self.assertEqual([kind for kind in ALL if isinstance(caught.exception, kind)], [errors.NoClocks])
        with self.assertRaises(errors.TooGreat) as caught:
            covers(((101, 0), (103, 0)))
        self.assertEqual([kind for kind in ALL if isinstance(caught.exception, kind)], [errors.TooGreat])


if __name__ == "__main__":
    unittest.main()
