"""Texts of webs and of layings."""

from fewforests.errors import NoText, NoWeb
from fewforests.layings import MOST_FORESTS
from fewforests.webs import MOST_TIES, check

# No number of a web or a laying has more figures; longer ones Python would not even read.
MOST_FIGURES = 3


def web_text(web):
    """A line with the number of points, then a line for each tie."""
    points, ties = web
    return f"points {points}\n" + "".join([f"tie {a} {b}\n" for a, b in ties])


def laying_text(laying):
    """A line with the entries, - for None."""
    return " ".join(["-" if entry is None else str(entry) for entry in laying]) + "\n"


def read_web(thing):
    """The web of its text; NoText of anything else."""
    lines = lines_of(thing)
    points = numbers_behind("points", lines[0], 1)[0]
    web = (points, tuple(numbers_behind("tie", line, 2) for line in lines[1:]))
    try:
        check(web)
    except NoWeb:
        raise NoText("this is the text of no web") from None
    return web


def read_laying(thing):
    """The entries of a laying's text; NoText of anything else."""
    lines = lines_of(thing)
    if len(lines) != 1:
        raise NoText("a laying's text is one line")
    words = lines[0].split(" ") if lines[0] != "" else []
    entries = tuple(None if word == "-" else read_number(word) for word in words)
    if len(entries) > MOST_TIES:
        raise NoText("a laying has at most 120 entries")
    if any(entry is not None and entry >= MOST_FORESTS for entry in entries):
        raise NoText("forests are numbered from 0 to 119")
    return entries


def lines_of(thing):
    """The lines of a text, one at least, without their line ends."""
    if not isinstance(thing, str) or not thing.endswith("\n"):
        raise NoText("a text ends with a line end")
    return thing[:-1].split("\n")


def numbers_behind(word, line, many):
    """The so many numbers that stand in a line behind this word."""
    words = line.split(" ")
    if words[0] != word or len(words) != many + 1:
        raise NoText("a line is a word and its numbers, a blank before each")
    return tuple(read_number(figures) for figures in words[1:])


def read_number(word):
    """The number that is written just so in decimal."""
    if len(word) > MOST_FIGURES or not word.isascii() or not word.isdigit():
        raise NoText("a number is a few figures")
    if word[0] == "0" and word != "0":
        raise NoText("no nought stands ahead of a number")
    return int(word)
