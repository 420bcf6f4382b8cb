"""[38] texts of webs and of layings, written and read."""

import random
import re
import unittest

from fewforests.errors import NoText
from fewforests.texts import laying_text, read_laying, read_web, web_text
from tests import looks

NUMBER = "(?:0|[1-9][0-9]*)"
SIGNS = "019 -+\n~aAt_."


def own_number(figures):
    """What the figures tell; of more than five of them just that it is too great."""
    return int(figures) if len(figures) <= 5 else 10 ** 6


def own_web(thing):
    """The web of a text, or None."""
    if type(thing) is not str or not re.fullmatch(f"points {NUMBER}\n(?:tie {NUMBER} {NUMBER}\n)*", thing):
        return None
    points, *numbers = [own_number(figures) for figures in re.findall("[0-9]+", thing)]
    ties = tuple(zip(numbers[::2], numbers[1::2]))
    if not 1 <= points <= 40 or len(ties) > 120 or not all(a < b < points for a, b in ties):
        return None
    return (points, ties)


def own_laying(thing):
    """The entries of a text, or None."""
    if thing == "\n":
        return ()
    if type(thing) is not str or not re.fullmatch(f"(?:-|{NUMBER})(?: (?:-|{NUMBER}))*\n", thing):
        return None
    entries = tuple(None if word == "-" else own_number(word) for word in thing[:-1].split(" "))
    if len(entries) > 120 or not all(entry is None or entry <= 119 for entry in entries):
        return None
    return entries


def bent_texts(text):
    """The text with a sign put in, left out or another one, a line twice, left out or in another's place."""
    texts = [text + "\n", "\n" + text, text[:-1], text + " ", " " + text, text + "\n\n", text[::-1], text + text,
             text.upper(), text.replace(" ", "  "), text.replace("\n", " \n"), text.replace("\n", "\n\n"),
             text.replace("\n", ""), text.replace(" ", "\n"), text.replace(" ", "")]
    for at in range(len(text)):
        texts += [text[:at] + text[at + 1:], text[:at] + text[at] + text[at:]]
        for sign in SIGNS:
            texts += [text[:at] + sign + text[at:], text[:at] + sign + text[at + 1:]]
    lines = text.splitlines(keepends=True)
    for at, line in enumerate(lines):
        texts += ["".join(lines[:at] + lines[at + 1:]), "".join(lines[:at] + [line] + lines[at:])]
        for other in range(len(lines)):
            turned = list(lines)
            turned[at], turned[other] = lines[other], line
            texts.append("".join(turned))
    for found in re.finditer("[0-9]+", text):
        for number in ("0" + found[0], "00" + found[0], "+" + found[0], "-" + found[0], "-0", "1" * 5000, "9" * 5000,
                       "0" * 5000, "0" * 4999 + "1", str(int(found[0]) + 1), str(int(found[0]) - 1), "40", "41", "120",
                       "119", "1000", found[0] + ".0", "1e1", "0x1", "1_0", "", "-", "None", "(1)"):
            texts.append(text[:found.start()] + number + text[found.end():])
    return texts


def no_texts():
    """Things that are no texts, and texts that are none of these."""
    odd = looks.odd_things()
    return odd + [[thing] for thing in odd] + ["points", "points\n", "tie 0 1\n", "points 1", "Points 1\n", "points 0\n"]


class Texts(unittest.TestCase):

    def read_the_same(self, read, own, thing):
        right = own(thing)
        if right is None:
            with self.assertRaises(NoText, msg=repr(thing)[:200]) as caught:
                read(thing)
            self.assertIs(type(caught.exception), NoText)
        else:
            self.assertEqual(repr(read(thing)), repr(right))
        return right is not None


class WebTexts(Texts):

    def same(self, thing):
        return self.read_the_same(read_web, own_web, thing)

    def test_written_and_read_back(self):
        for web in looks.NAMED_WEBS + looks.great_webs() + looks.chance_webs(38, 60, 40, 120):
            text = web_text(web)
            self.assertIs(type(text), str)
            lines = ["points " + str(web[0])] + ["tie " + str(a) + " " + str(b) for a, b in web[1]]
            self.assertEqual(text, "".join(line + "\n" for line in lines))
            self.assertEqual(repr(read_web(text)), repr(web))

    def test_told_in_full(self):
        self.assertEqual(web_text((1, ())), "points 1\n")
        self.assertEqual(web_text((12, ((0, 11), (3, 10), (0, 11)))), "points 12\ntie 0 11\ntie 3 10\ntie 0 11\n")
        self.assertEqual(read_web("points 40\ntie 38 39\n"), (40, ((38, 39),)))

    def test_bent(self):
        right = wrong = 0
        for web in ((1, ()), (2, ((0, 1),)), (40, ((0, 39), (9, 10))), (12, ((0, 1), (1, 11), (10, 11), (0, 1)))):
            for text in bent_texts(web_text(web)):
                told = self.same(text)
                right, wrong = right + told, wrong + (not told)
        self.assertGreater(right, 50)
        self.assertGreater(wrong, 1000)

    def test_bounds(self):
        for points in range(0, 45):
            self.assertIs(self.same(f"points {points}\n"), 1 <= points <= 40)
        for a in range(6):
            for b in range(6):
                self.assertIs(self.same(f"points 5\ntie {a} {b}\n"), a < b < 5)
        for ties in (0, 1, 119, 120, 121, 122, 500):
            self.assertIs(self.same("points 2\n" + "tie 0 1\n" * ties), ties <= 120)

    def test_anything(self):
        for thing in no_texts():
            self.same(thing)
        for text in ("", "\n", " ", "points 1 \n", "points  1\n", " points 1\n", "points 1\n\n", "points 1\n ",
                     "points 2\ntie 0 1", "points 2 tie 0 1\n", "points 2\ntie 1 0\n", "points 2\ntie 0 0\n",
                     "points 2\ntie 0 1 1\n", "points 2\ntie 0\n", "points 2\npoints 2\n", "tie 0 1\npoints 2\n",
                     "points 01\n", "points +1\n", "points -1\n", "points " + "1" * 5000 + "\n",
                     "points " + "0" * 5000 + "1\n", "points 2\ntie 0 " + "1" * 5000 + "\n"):
            self.assertIs(self.same(text), False, text[:50])


class LayingTexts(Texts):

    def same(self, thing):
        return self.read_the_same(read_laying, own_laying, thing)

    def test_written_and_read_back(self):
        chance = random.Random(380)
        layings = [(), (None,), (0,), (119,), (None,) * 120, tuple(range(120)), (119,) * 120]
        layings += [tuple(chance.choice([None, chance.randint(0, 119)]) for entry in range(chance.randint(0, 120)))
                    for turn in range(60)]
        for laying in layings:
            text = laying_text(laying)
            self.assertIs(type(text), str)
            words = ["-" if entry is None else str(entry) for entry in laying]
            self.assertEqual(text, " ".join(words) + "\n")
            self.assertEqual(repr(read_laying(text)), repr(laying))

    def test_told_in_full(self):
        self.assertEqual(laying_text(()), "\n")
        self.assertEqual(laying_text((None, 0, 119, 12)), "- 0 119 12\n")
        self.assertEqual(read_laying("\n"), ())
        self.assertEqual(read_laying("- - 7\n"), (None, None, 7))
        # Rings are not looked at: of no web need these be a laying.
        self.assertEqual(read_laying("0 0 0\n"), (0, 0, 0))

    def test_bent(self):
        right = wrong = 0
        for laying in ((), (0,), (None,), (0, None, 119, 10), (None, None), (100, 99, 9)):
            for text in bent_texts(laying_text(laying)):
                told = self.same(text)
                right, wrong = right + told, wrong + (not told)
        self.assertGreater(right, 100)
        self.assertGreater(wrong, 500)

    def test_bounds(self):
        for entry in range(0, 125):
            self.assertIs(self.same(f"{entry}\n"), entry <= 119)
        for entries in (0, 1, 119, 120, 121, 122, 500):
            self.assertIs(self.same(" ".join(["0"] * entries) + "\n"), entries <= 120)
            self.assertIs(self.same(" ".join(["-"] * entries) + "\n"), entries <= 120)

    def test_anything(self):
        for thing in no_texts():
            self.same(thing)
        for text in ("", " ", " \n", "0", "-", "0 \n", " 0\n", "0  0\n", "0\n\n", "0\n0\n", "\n\n", "00\n", "+0\n", "-0\n",
                     "-1\n", "--\n", "None\n", "0,0\n", "0\n ", "1" * 5000 + "\n", "0" * 5000 + "\n", "120\n"):
            self.assertIs(self.same(text), False, text[:50])


if __name__ == "__main__":
    unittest.main()
