import itertools
import random
import re
import unittest
from fractions import Fraction

from chairclans.errors import NoText
from chairclans.texts import read, shown
from tests.helper import assert_refused, assert_whole, number_of

NINES = "9" * 60


def pair(fraction):
    return (fraction.numerator, fraction.denominator)


def meant(text):
    """The ratio that a text is the one way to write, or None: told apart from the program's own way."""
    found = re.fullmatch(r"(0|-?[1-9][0-9]{0,59})(?:/([1-9][0-9]{0,59}))?", text)
    if found is None or found[2] == "1":
        return None
    one = Fraction(int(found[1]), int(found[2] or 1))
    lowest = (int(found[1]), int(found[2] or 1)) == pair(one)
    return pair(one) if lowest else None


class Shown(unittest.TestCase):
    def test_by_name(self):
        self.assertEqual(shown(one=(-5, 3)), "-5/3")

    def test_plain_ones(self):
        told = {
            (0, 1): "0", (1, 1): "1", (-1, 1): "-1", (10, 1): "10", (-5, 3): "-5/3", (5, 3): "5/3", (1, 10): "1/10",
            (-1, 2): "-1/2", (100, 7): "100/7",
        }
        for one, wanted in told.items():
            with self.subTest(wanted):
                self.assertEqual(shown(one), wanted)
                self.assertIs(type(shown(one)), str)

    def test_several_hundred_figures(self):
        for figures in (61, 300, 600, 900):
            top, bottom = "7" * figures, "1" + "0" * (figures - 1)
            self.assertEqual(shown((int(top), 1)), top)
            self.assertEqual(shown((-int(top), 1)), "-" + top)
            self.assertEqual(shown((int(top), int(bottom))), top + "/" + bottom)
            self.assertEqual(shown((-int(top), int(bottom))), "-" + top + "/" + bottom)


class Read(unittest.TestCase):
    def test_by_name(self):
        self.assertEqual(read(text="-5/3"), (-5, 3))

    def test_plain_ones(self):
        told = {"0": (0, 1), "1": (1, 1), "-1": (-1, 1), "10": (10, 1), "-5/3": (-5, 3), "1/2": (1, 2), "7/10": (7, 10)}
        for text, wanted in told.items():
            with self.subTest(text):
                one = read(text)
                self.assertIs(type(one), tuple)
                self.assertEqual(one, wanted)
                assert_whole(self, one[0])
                assert_whole(self, one[1])

    def test_small_ones_are_read_as_written(self):
        for top in range(-20, 21):
            for bottom in range(1, 21):
                one = pair(Fraction(top, bottom))
                self.assertEqual(read(shown(one)), one)

    def test_up_to_sixty_figures_are_read_as_written(self):
        chance = random.Random(5)
        for top_figures in (1, 2, 18, 19, 20, 59, 60):
            for bottom_figures in (1, 2, 19, 59, 60):
                top, bottom = number_of(chance, top_figures), number_of(chance, bottom_figures)
                for one in (Fraction(top, bottom), Fraction(-top, bottom), Fraction(top), Fraction(1, bottom)):
                    self.assertEqual(read(shown(pair(one))), pair(one))

    def test_just_sixty_figures(self):
        nines = int(NINES)
        self.assertEqual(read(NINES), (nines, 1))
        self.assertEqual(read("-" + NINES), (-nines, 1))
        self.assertEqual(read("1/" + NINES), (1, nines))
        self.assertEqual(read("-" + NINES[1:] + "8/" + NINES), (-(nines - 1), nines))

    def test_sixty_one_figures_are_refused(self):
        over = "1" + "0" * 60
        for text in (over, "-" + over, over + "/3", "-" + over + "/3", "1/" + over, "-1/" + over, "3/1" + "0" * 60,
                     NINES + "9", "1/" + NINES + "9", "1" * 4000, "1/" + "3" * 3998):
            assert_refused(self, NoText, read, text)

    def test_what_is_written_otherwise_is_refused(self):
        for text in ("", "2/4", "-2/4", "6/3", "3/3", "01", "00", "-01", "1/02", "01/2", "3/1", "-3/1", "0/1", "3/0",
                     "0/0", "-0", "-0/5", "0/5", "1/-2", "-1/-2", "+1", "1/+2", "+1/2", "-", "--1", "-+1", "/", "1/",
                     "/2", "-/2", "1//2", "1/2/3", "1/2/", "/1/2", "1.0", ".5", "1.", "0.5", "1/2.0", "a", "1a", "a1",
                     "1/b", "x/2", "1e3", "0x1", "1_0", "1,0", "1:2", "1\\2"):
            with self.subTest(text):
                assert_refused(self, NoText, read, text)

    def test_blanks_tabs_and_line_ends_are_refused(self):
        for gap in (" ", "\t", "\n", "\r", "\r\n", "  "):
            for text in (gap, gap + "1", "1" + gap, "1" + gap + "2", "-" + gap + "1", gap + "-1", gap + "1/2",
                         "1/2" + gap, "1" + gap + "/2", "1/" + gap + "2", "1/2" + gap + "3", gap + "0", "0" + gap):
                with self.subTest(repr(text)):
                    assert_refused(self, NoText, read, text)

    def test_every_short_text(self):
        for length in range(6):
            for signs in itertools.product("0124-/+ ", repeat=length):
                text = "".join(signs)
                try:
                    told = read(text)
                except NoText:
                    told = None
                self.assertEqual(told, meant(text), repr(text))

    def test_every_single_sign(self):
        for code in [9, 10, 13] + list(range(32, 127)):
            sign = chr(code)
            if sign not in "0123456789":
                for text in (sign, "1" + sign, "1" + sign + "2", "1/" + sign + "2", "1/2" + sign):
                    if text != "1/2":
                        assert_refused(self, NoText, read, text)
