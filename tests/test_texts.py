import re
import unittest

from coverclocks.clocks import met_all
from coverclocks.errors import NoText
from coverclocks.texts import clocks_read, clocks_shown
from tests.helper import (
    GREAT, HALVED, HALVES, JUST, TWELFTHS, UNLIKE, is_clock, refusal, small_clocks, some_clocks, whatever,
)

FIGURES = r"(0|[1-9][0-9]{0,59})"
# Signs that Python takes for figures, or for a part of a number or of a row, but that are none here.
SIGNS = "\u00b2\u0663\uff11\u0967+-_. \t\r\v\f\x1c\x85\xa0\u2028\u3000,:;xaO"
WORDS = ("", "0", "1", "2", "3", "12", "13", "999", "1000", "1001", "00", "01", "002", "+2", "-2", "-0", "2.0", "2_0",
         " 2", "2 ", "\t2", "0x2", "1e1", "two", "clock", "clocks", "None", "True", "\u00b2", "\u0662", "\uff12",
         "9" * 59, "9" * 60, "9" * 61, "1" + "0" * 59, "1" + "0" * 60, "0" * 60, "9" * 5000)
SOME = some_clocks(101, 40, 1000, 12) + [(), ((1, 0),), HALVES, UNLIKE, TWELFTHS, HALVED, GREAT, JUST]


def shown_look(clocks):
    text = "clocks " + str(len(clocks))
    for step, rest in clocks:
        text += "\nclock " + str(step) + " " + str(rest)
    return text


def read_look(text):
    """The clocks that a text writes, or the number of the row that is due."""
    if type(text) is not str:
        return 0
    rows = text.split("\n")
    head = re.fullmatch("clocks " + FIGURES, rows[0])
    if head is None or int(head[1]) > 12:
        return 1
    clocks = []
    for number, row in enumerate(rows[1:], start=2):
        found = re.fullmatch("clock " + FIGURES + " " + FIGURES, row)
        if found is None or number > int(head[1]) + 1:
            return number
        clock = (int(found[1]), int(found[2]))
        if not is_clock(clock) or clocks and clock <= clocks[-1]:
            return number
        clocks.append(clock)
    return tuple(clocks) if len(clocks) == int(head[1]) else len(rows) + 1


def no_text(row):
    return (NoText, {"row": row})


class Shown(unittest.TestCase):
    def test_row_by_row(self):
        for clocks in list(small_clocks()) + SOME:
            rows = clocks_shown(clocks).split("\n")
            self.assertEqual(rows[0], f"clocks {len(clocks)}")
            self.assertEqual(rows[1:], [f"clock {step} {rest}" for step, rest in clocks])

    def test_known(self):
        self.assertEqual(clocks_shown(()), "clocks 0")
        self.assertEqual(clocks_shown(HALVES), "clocks 2\nclock 2 0\nclock 2 1")
        self.assertEqual(clocks_shown(((1000, 999),)), "clocks 1\nclock 1000 999")

    def test_told_clocks_of_greater_steps(self):
        step, rest = met_all(GREAT)
        text = clocks_shown(((2, 1), (step, rest)))
        self.assertEqual(text, f"clocks 2\nclock 2 1\nclock {step} {rest}")
        self.assertEqual(refusal(clocks_read, text), no_text(3))


class Read(unittest.TestCase):
    def check(self, text):
        looked = read_look(text)
        if type(looked) is tuple:
            self.assertEqual(clocks_read(text), looked, repr(text[:200]))
        else:
            self.assertEqual(refusal(clocks_read, text), no_text(looked), repr(text[:200]))
        return looked

    def test_what_was_shown(self):
        for clocks in list(small_clocks()) + SOME:
            self.assertEqual(self.check(shown_look(clocks)), clocks)
            self.assertEqual(clocks_read(clocks_shown(clocks)), clocks)

    def test_no_text(self):
        for place, thing in enumerate(whatever() + [["clocks 0"], ("clocks 0",), {"clocks 0": 0}]):
            if type(thing) is not str:
                self.assertEqual(refusal(clocks_read, thing), no_text(0), place)
            else:
                self.assertEqual(refusal(clocks_read, thing), no_text(1), place)

    def test_known(self):
        self.assertEqual(clocks_read("clocks 0"), ())
        self.assertEqual(clocks_read("clocks 1\nclock 7 3"), ((7, 3),))
        for text, row in (
            ("", 1), ("\n", 1), ("clock 2 0", 1), ("clocks", 1), ("clocks 1", 2), ("clocks 2\nclock 2 0", 3),
            ("clocks 0\n", 2), ("clocks 0\nclock 2 0", 2), ("\nclocks 0", 1), ("clocks 1\nclock 2 0\n", 3),
            ("clocks 1\n\nclock 2 0", 2), ("clocks 13", 1), ("clocks 1\nclock 2 2", 2), ("clocks 1\nclock 0 0", 2),
            ("clocks 1\nclock 1001 0", 2), ("clocks 2\nclock 2 1\nclock 2 0", 3), ("clocks 2\nclock 2 1\nclock 2 1", 3),
            ("clocks 1\nclock 2 0\nclock 2 1", 3), ("clocks 1\nclock 2 0\nnothing", 3), ("clocks 12\nnothing", 2),
        ):
            self.assertEqual(refusal(clocks_read, text), no_text(row), repr(text))

    def test_words_exchanged(self):
        for clocks in SOME[30:]:
            rows = [row.split(" ") for row in shown_look(clocks).split("\n")]
            for place, row in enumerate(rows):
                for spot in range(len(row)):
                    for word in WORDS:
                        bent = [list(old) for old in rows]
                        bent[place][spot] = word
                        self.check("\n".join(" ".join(words) for words in bent))

    def test_one_word_more_or_fewer(self):
        for clocks in SOME[30:]:
            rows = [row.split(" ") for row in shown_look(clocks).split("\n")]
            for place, row in enumerate(rows):
                for spot in range(len(row) + 1):
                    for put in ([], ["0"], [""], ["clock"]):
                        words = row[:spot] + put + row[spot + (put == []):]
                        bent = rows[:place] + [words] + rows[place + 1:]
                        self.check("\n".join(" ".join(words) for words in bent))

    def test_signs_put_in(self):
        text = shown_look(((2, 0), (3, 1), (3, 2)))
        for spot in range(len(text) + 1):
            for sign in SIGNS + "\n0123456789":
                self.check(text[:spot] + sign + text[spot:])
                self.check(text[:spot] + sign + text[spot + 1:])
            self.check(text[:spot] + text[spot + 1:])
            self.check(text[:spot])

    def test_figures_that_are_none(self):
        for sign in "\u00b2\u0662\uff12\u0968":
            self.assertTrue(sign.isdigit())
            self.assertEqual(refusal(clocks_read, f"clocks {sign}\nclock 2 0\nclock 2 1"), no_text(1))
            self.assertEqual(refusal(clocks_read, f"clocks 2\nclock 2 0\nclock {sign} 1"), no_text(3))

    def test_rows(self):
        for clocks in SOME[30:]:
            rows = shown_look(clocks).split("\n")
            for place in range(len(rows)):
                self.check("\n".join(rows[:place] + rows[place + 1:]))
                self.check("\n".join(rows[:place] + [rows[place]] + rows[place:]))
                self.check("\n".join(rows[:place] + [""] + rows[place:]))
                self.check("\n".join(rows[:place] + ["clock 1000 999"] + rows[place:]))
                for other in range(place):
                    bent = list(rows)
                    bent[place] = rows[other]
                    bent[other] = rows[place]
                    self.check("\n".join(bent))
            for more in ("\n", "\n\n", "\nclock 1000 999", "\nclocks 0", " ", "\r", "\r\n"):
                self.check("\n".join(rows) + more)
                self.check(more + "\n".join(rows))
            for told in range(15):
                self.check("\n".join([f"clocks {told}"] + rows[1:]))

    def test_thirteen_clocks(self):
        thirteen = tuple((13, rest) for rest in range(13))
        self.assertEqual(refusal(clocks_read, shown_look(thirteen)), no_text(1))
        self.assertEqual(refusal(clocks_read, shown_look(thirteen).replace("13\n", "12\n", 1)), no_text(14))
        self.assertEqual(clocks_read(shown_look(thirteen[1:])), thirteen[1:])

    def test_the_first_row_that_is_amiss(self):
        rows = shown_look(TWELFTHS).split("\n")
        for place in range(len(rows)):
            for other in range(place + 1, len(rows)):
                bent = list(rows)
                bent[place] = "clock 0 0"
                bent[other] = ""
                self.assertEqual(refusal(clocks_read, "\n".join(bent)), no_text(place + 1))
        # Amiss ahead of the rows that are too few or too many.
        self.assertEqual(refusal(clocks_read, "clocks 5\nclock 2 0\nclock 2 0"), no_text(3))
        self.assertEqual(refusal(clocks_read, "clocks 1\nclock 2\nclock 3 0\nclock 4 0"), no_text(2))

    def test_many_rows(self):
        self.assertEqual(refusal(clocks_read, "clocks 2" + "\nclock 2 0" * 5000), no_text(3))
        self.assertEqual(refusal(clocks_read, "\n" * 5000), no_text(1))
        self.assertEqual(refusal(clocks_read, "clocks 1\nclock 2 0" + "\n" * 5000), no_text(3))


if __name__ == "__main__":
    unittest.main()
