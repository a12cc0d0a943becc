import fractions
import random
import re
import unittest

from coverclocks.desk import Desk
from coverclocks.errors import ClockError
from tests.helper import (
    ABOVE, FAR, GREAT, HALVED, HALVES, JUST, TWELFTHS, UNLIKE, clash_look, count, counts_look, is_clock, least_look,
    lones_look, mirror_look, moved_look, parts_look, round_great, rung, some_clocks, whatever, whole_look,
)

PLAIN = r" (0|[1-9][0-9]{0,59})"
SIGNED = r" (0|-?[1-9][0-9]{0,59})"
FORMS = {
    "put": PLAIN + PLAIN, "drop": PLAIN + PLAIN, "split": PLAIN + PLAIN, "join": PLAIN + "(" + PLAIN + ")+",
    "mirror": "", "move": SIGNED, "fresh": "", "back": "", "clocks": "", "round": "", "rings": SIGNED, "share": "",
    "exact": "", "clash": "", "covers": "", "tally": "", "idle": "", "fewest": "", "shown": "",
}
DEEDS = ("put", "drop", "split", "join", "mirror", "move", "fresh")
QUESTIONS = ("clocks", "round", "share", "exact", "clash", "covers", "tally", "idle", "fewest", "shown")
NO_ROW = ("NoRow", {})
NO_CLOCK = ("NoClock", {})
NO_NUMBER = ("NoNumber", {})
NO_PLACE = ("NoPlace", {})


def too_great(many, most):
    return ("TooGreat", {"many": many, "most": most})


class Refused(Exception):
    """What a look refuses with: the name of the class and the fields."""


def put_look(clocks, clock):
    if not is_clock(clock):
        raise Refused(NO_CLOCK)
    if clock in clocks or len(clocks) == 12:
        raise Refused(("NoClocks", {"number": len(clocks)}))
    return tuple(sorted(clocks + (clock,)))


def drop_look(clocks, clock):
    if clock not in clocks:
        raise Refused(NO_CLOCK)
    return tuple(sorted(set(clocks) - {clock}))


def split_look(clocks, place, k):
    if k not in range(2, 1001):
        raise Refused(NO_NUMBER)
    if place not in range(len(clocks)):
        raise Refused(NO_PLACE)
    found = set(clocks) - {clocks[place]} | set(parts_look(clocks[place], k))
    if len(found) > 12:
        raise Refused(too_great(len(found), 12))
    if clocks[place][0] * k > 1000:
        raise Refused(too_great(clocks[place][0] * k, 1000))
    return tuple(sorted(found))


def join_look(clocks, places):
    if list(places) != sorted(set(places)) or not all(place in range(len(clocks)) for place in places):
        raise Refused(NO_PLACE)
    whole = whole_look(clocks, places)
    if whole is None:
        raise Refused(NO_PLACE)
    return tuple(sorted(set(clocks) - {clocks[place] for place in places} | {whole}))


def deed_look(clocks, row):
    """The clocks behind a deed."""
    name = row.split(" ")[0]
    numbers = tuple(int(word) for word in row.split(" ")[1:])
    if name == "put":
        return put_look(clocks, numbers)
    if name == "drop":
        return drop_look(clocks, numbers)
    if name == "split":
        return split_look(clocks, *numbers)
    if name == "join":
        return join_look(clocks, numbers)
    if name == "mirror":
        return mirror_look(clocks)
    if name == "move":
        return moved_look(clocks, numbers[0])
    return ()


def told(things):
    return " ".join(str(thing) for thing in things) or "none"


def clocks_told(clocks):
    return told(str(step) + ":" + str(rest) for step, rest in clocks)


def share_look(clocks):
    return sum((fractions.Fraction(1, step) for step, rest in clocks), fractions.Fraction(0))


def round_question(clocks, name):
    """The four that look through a round."""
    if round_great(clocks) > 10000:
        raise Refused(too_great(round_great(clocks), 10000))
    counts = counts_look(clocks)
    if name == "covers":
        return f"no {counts.index(0)}" if 0 in counts else "yes"
    if name == "tally":
        return told(counts.count(many) for many in range(len(clocks) + 1))
    if name == "idle":
        return told(place for place, lone in enumerate(lones_look(clocks)) if lone is None)
    return told(min(least_look(clocks), key=len, default=()))


def question_look(clocks, row):
    """The answer to a question."""
    name = row.split(" ")[0]
    if name == "clocks":
        return clocks_told(clocks)
    if name == "round":
        return str(round_great(clocks))
    if name == "rings":
        return clocks_told(clock for clock in clocks if rung(clock, int(row.split(" ")[1])))
    if name == "share":
        return f"{share_look(clocks).numerator}/{share_look(clocks).denominator}"
    if name == "exact":
        return "yes" if share_look(clocks) == 1 and clash_look(clocks) is None else "no"
    if name == "clash":
        return told(clash_look(clocks) or ())
    if name == "shown":
        return " ; ".join([f"clocks {len(clocks)}"] + [f"clock {step} {rest}" for step, rest in clocks])
    return round_question(clocks, name)


class Model:
    """What a desk is to answer: it keeps the deeds that stand, and looks from the first on."""

    def __init__(self):
        self.deeds = []

    def clocks(self):
        clocks = ()
        for row in self.deeds:
            clocks = deed_look(clocks, row)
        return clocks

    def answer(self, row):
        name = row.split(" ")[0] if type(row) is str else ""
        if name not in FORMS or re.fullmatch(name + FORMS[name], row) is None or row == "back" and not self.deeds:
            return NO_ROW
        try:
            if name in DEEDS:
                deed_look(self.clocks(), row)
                self.deeds.append(row)
            elif name == "back":
                self.deeds.pop()
            else:
                return question_look(self.clocks(), row)
        except Refused as refused:
            return refused.args[0]
        return "ok"


def said(desk, row):
    """The answer of a desk, or the name of the class and the fields of its refusal."""
    try:
        return desk.say(row)
    except ClockError as error:
        return (error.__class__.__name__, vars(error))


def desk_with(clocks):
    desk = Desk()
    for step, rest in clocks:
        assert desk.say(f"put {step} {rest}") == "ok"
    return desk


def drawn_row(source, clocks):
    """A row, most often one that is told something of these clocks."""
    step = source.choice((1, 2, 3, 4, 4, 6, 8, 12, 0, 997, 1000, 1001))
    drawn = source.choice(list(clocks) + [(step, source.randint(0, max(step - 1, 1)))])
    places = sorted(source.sample(range(13), source.randint(2, 4)))
    joined = [str(place) for place, clock in enumerate(clocks) if clock[0] == drawn[0]]
    number = source.choice((0, 1, -1, 5, -12, FAR, -FAR, 10 ** 60 - 1))
    return source.choice([
        f"put {step} {source.randint(0, step)}", f"put {step} {source.randint(0, step)}", f"drop {drawn[0]} {drawn[1]}",
        f"split {source.randint(0, len(clocks))} {source.choice((2, 2, 2, 3, 3, 4, 0, 1, 13, 1000, 1001, FAR))}",
        f"split {source.randint(0, len(clocks))} {source.choice((2, 2, 3, 4, 6))}",
        "join " + " ".join(str(place) for place in places), "join " + " ".join(joined),
        "join " + " ".join(joined[-2:]), "mirror", f"move {number}", f"rings {number}", "back",
        source.choice(("back", "fresh", "mirror ", " back", "back 1", "put 1", "join 0", "move -0", "split 0 02")),
    ] + list(QUESTIONS))


class Drawn(unittest.TestCase):
    def test_drawn_rows(self):
        source = random.Random(111)
        met = {}
        for turn in range(60):
            desk = Desk()
            model = Model()
            for more in range(60):
                row = drawn_row(source, model.clocks())
                answer = model.answer(row)
                self.assertEqual(said(desk, row), answer, (model.deeds, row))
                key = (row.split(" ")[0], answer[0] if type(answer) is tuple else "answered")
                met[key] = met.get(key, 0) + 1
        for name in FORMS:
            self.assertGreater(met.get((name, "answered"), 0), 10, name)
        for key in (("put", "NoClock"), ("put", "NoClocks"), ("drop", "NoClock"), ("split", "NoNumber"),
                    ("split", "NoPlace"), ("split", "TooGreat"), ("join", "NoPlace"), ("back", "NoRow"),
                    ("covers", "TooGreat"), ("tally", "TooGreat"), ("idle", "TooGreat"), ("fewest", "TooGreat")):
            self.assertGreater(met.get(key, 0), 0, key)

    def test_two_desks_told_in_turn(self):
        source = random.Random(112)
        desks = [Desk(), Desk(), Desk()]
        models = [Model(), Model(), Model()]
        for turn in range(600):
            which = source.randrange(3)
            row = drawn_row(source, models[source.randrange(3)].clocks())
            self.assertEqual(said(desks[which], row), models[which].answer(row))
        self.assertEqual(Desk().say("clocks"), "none")


class Deeds(unittest.TestCase):
    def tell(self, desk, pairs):
        for row, answer in pairs:
            self.assertEqual(said(desk, row), answer, row)

    def test_put_and_drop(self):
        self.tell(Desk(), [
            ("clocks", "none"), ("put 2 0", "ok"), ("put 3 1", "ok"), ("put 2 1", "ok"), ("clocks", "2:0 2:1 3:1"),
            ("drop 2 1", "ok"), ("clocks", "2:0 3:1"), ("drop 2 1", NO_CLOCK), ("put 2 0", ("NoClocks", {"number": 2})),
            ("put 1000 999", "ok"), ("clocks", "2:0 3:1 1000:999"), ("drop 2 0", "ok"), ("drop 3 1", "ok"),
            ("drop 1000 999", "ok"), ("clocks", "none"), ("drop 1000 999", NO_CLOCK),
        ])

    def test_no_clock(self):
        for desk in (Desk(), desk_with(TWELFTHS), desk_with(HALVES)):
            kept = desk.say("clocks")
            for row in ("0 0", "0 1", "1 1", "2 2", "2 3", "1001 0", "1001 1000", "1000 1000", f"{FAR} 0", f"2 {FAR}",
                        "9" * 60 + " " + "9" * 60):
                self.tell(desk, [("put " + row, NO_CLOCK), ("drop " + row, NO_CLOCK), ("clocks", kept)])

    def test_twelve(self):
        desk = desk_with(TWELFTHS)
        kept = desk.say("clocks")
        full = ("NoClocks", {"number": 12})
        self.tell(desk, [("put 1 0", full), ("put 12 3", full), ("clocks", kept), ("put 1 1", NO_CLOCK),
                         ("drop 12 3", "ok"), ("put 12 4", ("NoClocks", {"number": 11})), ("put 1 0", "ok"),
                         ("put 2 0", full), ("split 1 2", too_great(13, 12)), ("back", "ok"), ("back", "ok"),
                         ("clocks", kept)])

    def test_split(self):
        desk = desk_with(HALVES)
        self.tell(desk, [
            ("split 1 3", "ok"), ("clocks", "2:0 6:1 6:3 6:5"), ("split 0 2", "ok"), ("clocks", "4:0 4:2 6:1 6:3 6:5"),
            ("split 5 2", NO_PLACE), (f"split {FAR} 2", NO_PLACE), ("split 0 9", too_great(13, 12)),
            ("split 0 8", "ok"), ("clocks", "4:2 6:1 6:3 6:5 32:0 32:4 32:8 32:12 32:16 32:20 32:24 32:28"),
            ("split 0 2", too_great(13, 12)), ("split 0 1000", too_great(1011, 12)),
        ])
        for k in ("0", "1", "1001", "1002", str(FAR), "9" * 60):
            # Ahead of the place, and of how many there would be.
            for place in (0, 12, FAR):
                self.tell(desk, [(f"split {place} {k}", NO_NUMBER)])
            self.tell(Desk(), [("split 0 " + k, NO_NUMBER)])
        self.tell(Desk(), [("split 0 2", NO_PLACE), ("split 0 1000", NO_PLACE)])
        self.tell(desk_with(((500, 3), (501, 3))), [
            ("split 1 1000", too_great(1001, 12)), ("split 1 2", too_great(1002, 1000)),
            ("split 1 11", too_great(5511, 1000)), ("split 1 12", too_great(13, 12)), ("split 0 2", "ok"),
            ("clocks", "501:3 1000:3 1000:503"),
        ])

    def test_join(self):
        desk = desk_with(((1, 0), (4, 0), (4, 1), (4, 2), (4, 3)))
        kept = desk.say("clocks")
        for places in ("0 1", "1 2", "3 1", "1 1", "1 3 3", "3 4", "1 2 3", "0 1 2 3 4", "1 5", f"1 {FAR}", "4 3 2 1",
                       "5 6", "1 3 5", "0 0"):
            self.tell(desk, [("join " + places, NO_PLACE), ("clocks", kept)])
        self.tell(desk, [
            ("join 1 3", "ok"), ("clocks", "1:0 2:0 4:1 4:3"), ("join 1 2 3", NO_PLACE), ("join 2 3", "ok"),
            ("clocks", "1:0 2:0 2:1"), ("join 1 2", "ok"), ("clocks", "1:0"), ("join 0 1", NO_PLACE),
            ("back", "ok"), ("back", "ok"), ("back", "ok"), ("join 1 2 3 4", "ok"), ("clocks", "1:0"),
        ])
        desk = desk_with(TWELFTHS)
        self.tell(desk, [("join " + " ".join(str(place) for place in range(12)), "ok"), ("clocks", "1:0")])
        self.tell(Desk(), [("join 0 1", NO_PLACE)])

    def test_mirror_and_move(self):
        desk = desk_with(((3, 1), (5, 0), (7, 2)))
        self.tell(desk, [
            ("mirror", "ok"), ("clocks", "3:2 5:0 7:5"), ("mirror", "ok"), ("clocks", "3:1 5:0 7:2"), ("move 1", "ok"),
            ("clocks", "3:2 5:1 7:3"), ("move -3", "ok"), ("clocks", "3:2 5:3 7:0"), ("move 0", "ok"),
            ("clocks", "3:2 5:3 7:0"), (f"move {10 ** 60 - 1}", "ok"), (f"move -{10 ** 60 - 1}", "ok"),
            ("clocks", "3:2 5:3 7:0"), ("move " + "9" * 61, NO_ROW), ("move -" + "9" * 61, NO_ROW),
        ])
        self.tell(Desk(), [("mirror", "ok"), ("move 5", "ok"), ("clocks", "none"), ("back", "ok"), ("back", "ok"),
                           ("back", NO_ROW)])

    def test_fresh(self):
        desk = desk_with(HALVES)
        self.tell(desk, [("fresh", "ok"), ("clocks", "none"), ("fresh", "ok"), ("put 5 3", "ok"), ("back", "ok"),
                         ("back", "ok"), ("clocks", "none"), ("back", "ok"), ("clocks", "2:0 2:1")])

    def test_back_behind_each_deed(self):
        desk = Desk()
        kept = []
        rows = ("put 4 1", "put 4 3", "join 0 1", "put 2 0", "split 0 3", "move -7", "mirror", "drop 6 1", "fresh",
                "move 5", "put 1 0", "split 0 12", "fresh")
        for row in rows:
            kept.append(desk.say("clocks"))
            self.tell(desk, [(row, "ok")])
            behind = desk.say("clocks")
            self.tell(desk, [("back", "ok"), ("clocks", kept[-1]), (row, "ok"), ("clocks", behind)])
        for clocks in reversed(kept):
            self.tell(desk, [("back", "ok"), ("clocks", clocks)])
        for turn in range(3):
            self.tell(desk, [("back", NO_ROW), ("clocks", "none")])
        self.tell(desk, [("put 2 1", "ok"), ("clocks", "2:1"), ("back", "ok"), ("back", NO_ROW)])

    def test_what_is_refused_is_no_deed(self):
        desk = desk_with(HALVES)
        for row in ("put 2 0", "put 2 2", "drop 3 0", "split 2 2", "split 0 1", "split 0 13", "join 0 2", "nothing",
                    "move", "", None, "put 3 0 0", "mirror ", "rings", "split 0 1000"):
            self.assertIsInstance(said(desk, row), tuple, row)
            self.tell(desk, [("clocks", "2:0 2:1")])
        # Questions are none either.
        for row in QUESTIONS + ("rings 3", "rings -3"):
            self.assertIsInstance(said(desk, row), str)
        self.tell(desk, [("back", "ok"), ("clocks", "2:0"), ("back", "ok"), ("clocks", "none"), ("back", NO_ROW)])


class Questions(unittest.TestCase):
    def test_of_no_clocks(self):
        desk = Desk()
        for row, answer in (
            ("clocks", "none"), ("round", "1"), ("rings 0", "none"), ("rings -7", "none"), ("share", "0/1"),
            ("exact", "no"), ("clash", "none"), ("covers", "no 0"), ("tally", "1"), ("idle", "none"),
            ("fewest", "none"), ("shown", "clocks 0"),
        ):
            self.assertEqual(desk.say(row), answer, row)

    def test_known(self):
        for clocks, answers in (
            (((1, 0),), ("1:0", "1", "1/1", "yes", "none", "yes", "0 1", "none", "0", "clocks 1 ; clock 1 0")),
            (HALVES, ("2:0 2:1", "2", "1/1", "yes", "none", "yes", "0 2 0", "none", "0 1",
                      "clocks 2 ; clock 2 0 ; clock 2 1")),
            (((2, 0), (3, 0)), ("2:0 3:0", "6", "5/6", "no", "0 1 0", "no 1", "2 3 1", "none", "none",
                                "clocks 2 ; clock 2 0 ; clock 3 0")),
            (((1, 0), (2, 0), (2, 1)), ("1:0 2:0 2:1", "2", "2/1", "no", "0 1 0", "yes", "0 0 2 0", "0 1 2", "0",
                                        "clocks 3 ; clock 1 0 ; clock 2 0 ; clock 2 1")),
        ):
            desk = desk_with(clocks)
            for row, answer in zip(QUESTIONS, answers, strict=True):
                self.assertEqual(desk.say(row), answer, row)

    def test_looked(self):
        drawn = some_clocks(113, 60, 12, 7, 3000) + some_clocks(114, 10, 6, 12, 3000) + [UNLIKE, TWELFTHS, HALVED, JUST]
        for clocks in drawn:
            desk = desk_with(clocks)
            for row in QUESTIONS + ("rings 0", "rings 7", "rings -1", f"rings {FAR}", f"rings -{FAR}"):
                self.assertEqual(desk.say(row), question_look(clocks, row), row)
            self.assertEqual(desk.say("clocks"), clocks_told(clocks))

    def test_too_great(self):
        for clocks in (ABOVE, GREAT, GREAT[:2]):
            desk = desk_with(clocks)
            for row in ("covers", "tally", "idle", "fewest"):
                self.assertEqual(said(desk, row), too_great(round_great(clocks), 10000))
            self.assertEqual(desk.say("clocks"), clocks_told(clocks))
            self.assertEqual(desk.say("round"), str(round_great(clocks)))
            self.assertEqual(desk.say("exact"), "no")
            self.assertEqual(desk.say("share"), question_look(clocks, "share"))
        self.assertEqual(desk_with(GREAT).say("clash"), said(desk_with(GREAT[:2]), "clash"))

    def test_rings(self):
        desk = desk_with(UNLIKE)
        for number in (-13, -1, 0, 1, 7, 12, FAR, -FAR, 10 ** 60 - 1, 1 - 10 ** 60):
            self.assertEqual(desk.say(f"rings {number}"), clocks_told(one for one in UNLIKE if rung(one, number)))
            self.assertEqual(desk.say(f"rings {number}").count(":"), count(UNLIKE, number))
        self.assertEqual(desk.say("rings -13"), "6:5")
        self.assertEqual(desk_with(HALVES[:1]).say("rings 3"), "none")
        for number in (10 ** 60, -10 ** 60):
            self.assertEqual(said(desk, f"rings {number}"), NO_ROW)

    def test_behind_a_refused_row(self):
        desk = desk_with(((2, 0), (3, 0)))
        answers = [desk.say(row) for row in QUESTIONS]
        for row in ("put 2 0", "drop 9 0", "split 0 1001", "split 5 2", "join 0 1", "put 0 0", "rings", "", "covers 1"):
            self.assertIsInstance(said(desk, row), tuple)
            self.assertEqual([desk.say(question) for question in QUESTIONS], answers)

    def test_shown_leads_back(self):
        for clocks in (UNLIKE, TWELFTHS, GREAT, ()):
            rows = desk_with(clocks).say("shown").split(" ; ")
            self.assertEqual(rows[0], f"clocks {len(clocks)}")
            self.assertEqual(rows[1:], [f"clock {step} {rest}" for step, rest in clocks])


class NoRows(unittest.TestCase):
    def refused(self, row, place=None):
        for desk, kept in ((Desk(), "none"), (desk_with(((2, 0), (4, 1), (4, 3))), "2:0 4:1 4:3")):
            self.assertEqual(said(desk, row), NO_ROW, repr(row) if place is None else place)
            self.assertEqual(desk.say("clocks"), kept)

    def test_no_text(self):
        for place, thing in enumerate(whatever() + [["clocks"], ("mirror",), {"clocks": 0}, b"clocks"]):
            self.refused(thing, place)

    def test_blanks_and_line_feeds(self):
        for row in ("mirror", "clocks", "fresh", "back", "put 3 1", "drop 2 0", "split 0 2", "join 1 2", "move 5",
                    "move -5", "rings 0", "shown", "round", "covers"):
            words = row.split(" ")
            for sign in (" ", "\n", "\t", "\r", "\x0b", "\xa0", "\u2028", "%", ";", "0 ", " 0", " x", "x"):
                self.refused(sign + row)
            for sign in (" ", "\n", "\t", "\r", "\x0b", "\xa0", "\u2028", "%", ";", " x", "x"):
                self.refused(row + sign)
            for sign in ("  ", "\n", "\t", " \n", "\n ", "", ",", " , ", "\xa0", "_", " - ", " +"):
                if len(words) > 1:
                    self.refused(sign.join(words))
            self.refused(row.upper())
            self.refused(row + "\n" + row)
            self.refused(row[1:])
        for row in ("", " ", "\n", "\t", "none", "ok", "nothing", "desk", "say", "N", "0", "-1", "clocks\nclocks"):
            self.refused(row)

    def test_numbers_of_words(self):
        for name, many in (("put", 2), ("drop", 2), ("split", 2), ("mirror", 0), ("move", 1), ("fresh", 0), ("back", 0),
                           ("rings", 1)) + tuple((name, 0) for name in QUESTIONS):
            for more in range(5):
                if more != many:
                    self.refused(" ".join([name] + ["2"] * more))
        self.refused("join")
        self.refused("join 1")
        self.refused("join 1 2 ")
        self.refused("join  1 2")

    def test_numbers_not_written_so(self):
        bad = ("", "00", "01", "-1", "-0", "+1", "--1", "1-", "-", "1.0", "1_0", "0x1", "x", "\u00b2", "\u0661",
               "\uff11", "9" * 61, "0" * 60, "1" + "0" * 60, "1,", "1:0", "None", "True", "1\n", "\n1", "\t1")
        for word in bad:
            for row in (f"put {word} 0", f"put 3 {word}", f"drop {word} 0", f"drop 2 {word}", f"split {word} 2",
                        f"split 0 {word}", f"join {word} 2", f"join 1 {word}", f"join 1 2 {word}"):
                self.refused(row)
            if word != "-1":
                self.refused(f"move {word}")
                self.refused(f"rings {word}")
        for word in ("-01", "-00", "-+1", "- 1", "-" + "9" * 61, "-\u0661", "-x", "\u22121"):
            self.refused(f"move {word}")
            self.refused(f"rings {word}")
        self.refused("put -1 0")
        self.refused("join 1 -2")

    def test_ahead_of_all_else(self):
        desk = desk_with(TWELFTHS)
        for row in ("put 0 00", "put 12 1 ", "split 99 1 1", "split -1 1", "join 5 -4", "drop 5", "covers 0"):
            self.assertEqual(said(desk, row), NO_ROW)

    def test_the_answer_hangs_on_the_deeds_that_stand(self):
        one = Desk()
        other = Desk()
        for row in ("put 2 0", "put 9 9", "put 3 1", "back", "put 2 1", "covers", "fresh", "back", "split 1 2", "x"):
            said(one, row)
        for row in ("put 2 0", "put 2 1", "split 1 2"):
            said(other, row)
        for turn in range(4):
            for row in QUESTIONS + ("rings 5",):
                self.assertEqual(said(one, row), said(other, row))
            self.assertEqual(said(one, "back"), said(other, "back"))


if __name__ == "__main__":
    unittest.main()
