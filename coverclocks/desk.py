"""A desk that keeps clocks: it is told rows, and answers or refuses each."""

from coverclocks.changed import mirrored_of
from coverclocks.clocks import clock_good, clocks_of, rings_at, round_of
from coverclocks.covering import first_missed
from coverclocks.errors import NoClock, NoNumber, NoRow
from coverclocks.exact import moved_to
from coverclocks.least import fewest_cover, idle_of
from coverclocks.splits import join_at, split_at
from coverclocks.tallies import clash_of, exact_good, shares_of, tally_of
from coverclocks.texts import clocks_shown, figures_good

LEAST_K = 2
MOST_K = 1000


def none_fit(words):
    return words == []


def two_fit(words):
    return len(words) == 2 and places_fit(words)


def places_fit(words):
    return len(words) >= 2 and all([figures_good(word) for word in words])


def number_fits(words):
    return len(words) == 1 and signed_good(words[0])


def signed_good(word):
    if word.startswith("-"):
        return word != "-0" and figures_good(word[1:])
    return figures_good(word)


def numbers_of(words):
    return [int(word) for word in words[1:]]


# A deed makes, of the clocks that are kept and a row's numbers, those that are kept from then on.
def put_deed(clocks, numbers):
    clock = tuple(numbers)
    if not clock_good(clock):
        raise NoClock()
    return clocks_of(list(clocks) + [clock])


def drop_deed(clocks, numbers):
    clock = tuple(numbers)
    if clock not in clocks:
        raise NoClock()
    return tuple([other for other in clocks if other != clock])


def split_deed(clocks, numbers):
    if not LEAST_K <= numbers[1] <= MOST_K:
        raise NoNumber()
    return split_at(clocks, numbers[0], numbers[1])


def join_deed(clocks, numbers):
    return join_at(clocks, tuple(numbers))


def mirror_deed(clocks, numbers):
    return mirrored_of(clocks)


def move_deed(clocks, numbers):
    return moved_to(clocks, numbers[0])


def fresh_deed(clocks, numbers):
    return ()


def things_told(things):
    if things is None or len(things) == 0:
        return "none"
    return " ".join([str(thing) for thing in things])


# A question is answered from the same as a deed, with a text.
def clocks_told(clocks, numbers):
    return things_told([f"{step}:{rest}" for step, rest in clocks])


def round_told(clocks, numbers):
    return str(round_of(clocks))


def rings_told(clocks, numbers):
    return clocks_told(rings_at(clocks, numbers[0]), [])


def share_told(clocks, numbers):
    return "/".join([str(number) for number in shares_of(clocks)])


def exact_told(clocks, numbers):
    return "yes" if exact_good(clocks) else "no"


def clash_told(clocks, numbers):
    return things_told(clash_of(clocks))


def covers_told(clocks, numbers):
    number = first_missed(clocks)
    return "yes" if number is None else f"no {number}"


def tally_told(clocks, numbers):
    return things_told(tally_of(clocks))


def idle_told(clocks, numbers):
    return things_told(idle_of(clocks))


def fewest_told(clocks, numbers):
    return things_told(fewest_cover(clocks))


def shown_told(clocks, numbers):
    return clocks_shown(clocks).replace("\n", " ; ")


# By the word at a row's head: what tells whether the words behind it are those that are due, and what is done.
DEEDS = {
    "put": (two_fit, put_deed),
    "drop": (two_fit, drop_deed),
    "split": (two_fit, split_deed),
    "join": (places_fit, join_deed),
    "mirror": (none_fit, mirror_deed),
    "move": (number_fits, move_deed),
    "fresh": (none_fit, fresh_deed),
}
QUESTIONS = {
    "clocks": (none_fit, clocks_told),
    "round": (none_fit, round_told),
    "rings": (number_fits, rings_told),
    "share": (none_fit, share_told),
    "exact": (none_fit, exact_told),
    "clash": (none_fit, clash_told),
    "covers": (none_fit, covers_told),
    "tally": (none_fit, tally_told),
    "idle": (none_fit, idle_told),
    "fewest": (none_fit, fewest_told),
    "shown": (none_fit, shown_told),
}


class Desk:
    def __init__(self):
        # The clocks ahead of all deeds, then behind each deed that stands.
        self.kept = [()]

    def say(self, row):
        if not isinstance(row, str):
            raise NoRow()
        words = row.split(" ")
        name = words[0]
        if words == ["back"]:
            return self.undo()
        if name in DEEDS and DEEDS[name][0](words[1:]):
            self.kept.append(DEEDS[name][1](self.kept[-1], numbers_of(words)))
            return "ok"
        if name in QUESTIONS and QUESTIONS[name][0](words[1:]):
            return QUESTIONS[name][1](self.kept[-1], numbers_of(words))
        raise NoRow()

    def undo(self):
        if len(self.kept) == 1:
            raise NoRow()
        self.kept.pop()
        return "ok"
