"""Clocks written as texts and read from them."""

from coverclocks.clocks import MOST_CLOCKS, clocks_good
from coverclocks.errors import NoText

MOST_FIGURES = 60
FIGURES = "0123456789"


def clocks_shown(clocks):
    many = len(clocks)
    return "\n".join([f"clocks {many}"] + [f"clock {step} {rest}" for step, rest in clocks])


def clocks_read(text):
    if not isinstance(text, str):
        raise NoText(0)
    rows = text.split("\n")
    many = many_read(rows[0])
    clocks = ()
    for ahead, row in enumerate(rows[1:]):
        clocks = clocks + (tuple(numbers_behind("clock", 2, row)),)
        if ahead == many or not clocks_good(clocks):
            raise NoText(ahead + 2)
    if len(clocks) < many:
        raise NoText(len(rows) + 1)
    return clocks


def many_read(row):
    numbers = numbers_behind("clocks", 1, row)
    if numbers == [] or numbers[0] > MOST_CLOCKS:
        raise NoText(1)
    return numbers[0]


# The numbers, so many, behind the name at a row's head; none where the row is not written so.
def numbers_behind(name, many, row):
    words = row.split(" ")
    if words[0] != name or len(words) != many + 1 or not all([figures_good(word) for word in words[1:]]):
        return []
    return [int(word) for word in words[1:]]


# Python takes more signs for figures, and int takes more forms for numbers, than are written here.
def figures_good(word):
    if not 1 <= len(word) <= MOST_FIGURES or not all([sign in FIGURES for sign in word]):
        return False
    return word == "0" or not word.startswith("0")
