import random
import unittest
from fractions import Fraction

from chairclans.dealing import deal, dealt
from chairclans.errors import NoBounds, NoSpell
from chairclans.windows import windows as windows_by_bounds
from tests.helper import (
    all_rows, assert_refused, assert_row, assert_same, assert_unchanged, assert_why, drawn_row, drawn_spells, is_kept,
    just_kept, lies_in, pairs, small_spells, wanted_deal, wanted_windows, wrong_bounds, wrong_spells,
)

HALVES = ((1, 2), (1, 2))
TENS = ((10, 1), (10, 1))
SHARES_OF_DUE = (0, 0.5, 0.9, 1)


def numbered(clan, opens, lasts):
    """A clan's windows, its openings and last turns put in the order that they must have."""
    rising = sorted(lasts, key=lambda last: (last is None, last or 0))
    return [(clan, j, *span) for j, span in enumerate(zip(sorted(opens), rising), start=1)]


def drawn_windows(chance, turns, clans, visits):
    """Any windows: also last turns of 0, ahead of the opening, openings behind the last turn."""
    due = chance.choice(SHARES_OF_DUE)
    early = chance.choice((1, turns // 2 + 1, turns + 1))
    late = chance.choice((0, turns // 2, turns))
    found = []
    for clan in range(clans):
        count = chance.randrange(visits + 1)
        opens = [chance.randrange(1, early + 1) for j in range(count)]
        lasts = [chance.randrange(late, turns + 1) if chance.random() < due else None for j in range(count)]
        found += numbered(clan, opens, lasts)
    return found


def windows_round(chance, row, clans):
    """Windows that the row lies in, and perhaps some more that need not come."""
    turns, slack = len(row), chance.choice((0, 1, 3, len(row)))
    due = chance.choice(SHARES_OF_DUE)
    found = []
    for clan in range(clans):
        own = [turn for turn, other in enumerate(row, start=1) if other == clan]
        opens = [max(1, turn - chance.randrange(slack + 1)) for turn in own]
        lasts = [min(turns, turn + chance.randrange(slack + 1)) if chance.random() < due else None for turn in own]
        for more in range(chance.randrange(3)):
            opens.append(chance.randrange(max(opens, default=1), turns + 2))
            lasts.append(None)
        found += numbered(clan, opens, lasts)
    return found


def nearly(chance, windows, turns):
    """The windows with some visits fewer at the end of a clan, or some due sooner, or all of a clan opening later."""
    if not windows:
        return []
    clan, number, opens, last = chance.choice(windows)
    change = chance.choice(("fewer", "sooner", "later"))
    changed = []
    for window in windows:
        other, j, opens, last = window
        if other != clan:
            changed.append(window)
        elif change == "sooner":
            changed.append((clan, j, opens, max(0, last - 1) if last is not None and j <= number else last))
        elif change == "later":
            changed.append((clan, j, min(turns + 1, opens + 1), last))
        elif j < number:
            changed.append(window)
    return changed


def many_windows(seed, most_turns, most_clans, times):
    chance = random.Random(seed)
    found = [(turns, []) for turns in (1, 2, most_turns)]
    for again in range(times):
        turns, clans = chance.randrange(1, most_turns + 1), chance.randrange(1, most_clans + 1)
        found.append((turns, drawn_windows(chance, turns, clans, 2 * turns // clans + 2)))
        row = [chance.randrange(clans) for turn in range(turns)]
        windows = windows_round(chance, row, clans)
        found.append((turns, windows))
        found.append((turns, nearly(chance, windows, turns)))
    return found


class TheDrawnWindows(unittest.TestCase):
    def test_they_are_as_the_interface_tells(self):
        for turns, windows in many_windows(13, 60, 8, 300) + many_windows(131, 6, 4, 1500):
            self.assertEqual(windows, sorted(windows, key=lambda window: window[:2]))
            for clan in range(8):
                own = [window for window in windows if window[0] == clan]
                opens = [window[2] for window in own]
                lasts = [turns + 1 if window[3] is None else window[3] for window in own]
                self.assertEqual([window[1] for window in own], list(range(1, len(own) + 1)))
                self.assertEqual((opens, lasts), (sorted(opens), sorted(lasts)))
                self.assertTrue(all(1 <= one <= turns + 1 for one in opens) and all(0 <= one for one in lasts))

    def test_they_hold_every_kind(self):
        kinds = set()
        for turns, windows in many_windows(13, 60, 8, 300):
            lasts = [window[3] for window in windows if window[3] is not None]
            for kind, there in (
                    ("no windows", not windows), ("too few", len(windows) < turns), ("last turn 0", 0 in lasts),
                    ("none due", windows and not lasts), ("all due", windows and len(lasts) == len(windows)),
                    ("the same last turn", len(set(lasts)) < len(lasts)),
                    ("opening behind all", any(window[2] > turns for window in windows)),
                    ("last ahead of the opening", any(one[3] is not None and one[3] < one[2] for one in windows))):
                if there:
                    kinds.add(kind)
        self.assertEqual(len(kinds), 8)


class Deal(unittest.TestCase):
    def assert_dealt(self, turns, windows):
        """The row of the dealing where it comes to the end, else a crowd or a lack that is there; tells which."""
        told = deal(turns, windows)
        row = wanted_deal(turns, windows)
        self.assertIs(type(told), tuple)
        if row is None:
            assert_why(self, turns, windows, told)
        else:
            assert_same(self, told, ("row", row))
            assert_row(self, told[1])
        return told[0]

    def test_by_name(self):
        assert_same(self, deal(turns=1, windows=[(0, 1, 1, 1)]), ("row", [0]))

    def test_plain_rows(self):
        for turns, windows, row in (
                (2, [(0, 1, 1, 2), (1, 1, 1, 1)], [1, 0]), (2, [(0, 1, 1, 2), (1, 1, 1, 2)], [0, 1]),
                (2, [(0, 1, 1, None), (1, 1, 1, 2)], [1, 0]), (2, [(0, 1, 2, 2), (1, 1, 1, None)], [1, 0]),
                (3, [(0, 1, 1, None), (0, 2, 1, None), (1, 1, 2, None), (2, 1, 3, 3)], [0, 0, 2]),
                (3, [(5, 1, 1, None), (5, 2, 2, None), (7, 1, 1, None)], [5, 5, 7]),
                (3, [(0, 1, 1, 3), (0, 2, 1, 3), (1, 1, 1, 2)], [1, 0, 0]),
                (2, [(0, 1, 1, None), (0, 2, 1, None), (0, 3, 3, None)], [0, 0])):
            with self.subTest(f"{turns} {windows}"):
                assert_same(self, deal(turns, windows), ("row", row))

    def test_plain_crowds_and_lacks(self):
        assert_same(self, deal(1, [(0, 1, 1, 1), (1, 1, 1, 1)]), ("crowd", 1, 1))
        assert_same(self, deal(3, [(0, 1, 1, None), (1, 1, 2, 2), (2, 1, 2, 2), (3, 1, 1, None)]), ("crowd", 2, 2))
        assert_same(self, deal(1, [(0, 1, 1, 0)]), ("crowd", 1, 0))
        assert_same(self, deal(2, [(0, 1, 1, None)]), ("lack", 2))
        assert_same(self, deal(2, [(0, 1, 2, None), (1, 1, 2, None)]), ("lack", 1))

    def test_no_windows_are_a_lack(self):
        for turns in (1, 2, 30, 60):
            self.assertEqual(self.assert_dealt(turns, []), "lack")

    def test_a_due_visit_that_opens_behind_all_turns_is_a_crowd(self):
        for turns in (1, 5, 60):
            for last in (0, 1, turns):
                windows = [(0, j, 1, None) for j in range(1, turns + 1)] + [(1, 1, turns + 1, last)]
                self.assertEqual(self.assert_dealt(turns, windows), "crowd")

    def test_one_due_visit_too_many(self):
        for turns in (1, 2, 17, 60):
            windows = [(0, j, 1, turns) for j in range(1, turns + 1)]
            self.assertEqual(self.assert_dealt(turns, windows), "row")
            self.assertEqual(self.assert_dealt(turns, windows + [(1, 1, 1, turns)]), "crowd")

    def test_many_windows(self):
        told = [self.assert_dealt(turns, windows) for turns, windows in many_windows(13, 60, 8, 300)]
        self.assertGreater(min(told.count(word) for word in ("row", "crowd", "lack")), 60)

    def test_few_turns(self):
        told = [self.assert_dealt(turns, windows) for turns, windows in many_windows(131, 6, 4, 1500)]
        self.assertGreater(min(told.count(word) for word in ("row", "crowd", "lack")), 300)

    def test_no_row_where_a_crowd_or_a_lack_is_told(self):
        for turns, windows in many_windows(14, 5, 3, 300):
            told = deal(turns, windows)
            fitting = [row for row in all_rows([(turns, [1, 1, 1])]) if lies_in(row, windows)]
            if told[0] == "row":
                self.assertIn(told[1], fitting)
            else:
                self.assertEqual(fitting, [])

    def test_the_row_lies_in_the_windows(self):
        for turns, windows in many_windows(141, 60, 8, 100):
            told = deal(turns, windows)
            if told[0] == "row":
                self.assertTrue(lies_in(told[1], windows))

    def test_windows_by_bounds(self):
        chance = random.Random(15)
        told = []
        for again in range(150):
            spells = drawn_spells(chance, chance.randrange(1, 9), 1, chance.randrange(1, 61))
            below, above = Fraction(chance.randrange(24), 20), Fraction(chance.randrange(24), 20)
            windows = wanted_windows(spells, [(below, above)] * len(spells[0][1]))
            told.append(self.assert_dealt(spells[0][0], windows))
        self.assertGreater(min(told.count(word) for word in ("row", "crowd", "lack")), 5)

    def test_what_is_handed_in_stays_as_it_was(self):
        for turns, windows in many_windows(142, 60, 8, 60):
            assert_unchanged(self, deal, turns, windows)


class Dealt(unittest.TestCase):
    def test_by_name(self):
        assert_same(self, dealt(spells=[(2, [1, 1])], bounds=[HALVES] * 2), ("row", [0, 1]))

    def test_plain_ones(self):
        assert_same(self, dealt([(3, [1, 2])], [HALVES] * 2), ("row", [1, 0, 1]))
        assert_same(self, dealt([(2, [1, 0]), (1, [0, 1])], [((0, 1), (0, 1))] * 2), ("row", [0, 0, 1]))
        assert_same(self, dealt([(1, [1, 1, 1])], [HALVES] * 3), ("lack", 1))

    def test_a_row_is_told_wherever_a_row_keeps_the_bounds(self):
        chance = random.Random(16)
        taken = 0
        for clans in range(1, 9):
            for turns in (1, 3, 10, 25, 60):
                for again in range(4):
                    spells = drawn_spells(chance, clans, min(turns, chance.randrange(1, 5)), turns)
                    bounds = just_kept(spells, drawn_row(chance, spells))
                    if max(max(one) for one in bounds) <= 10:
                        taken += 1
                        told = dealt(spells, pairs(bounds))
                        self.assertEqual(told[0], "row")
                        self.assertTrue(is_kept(spells, bounds, told[1]))
                        windows = wanted_windows(spells, bounds)
                        assert_same(self, told, ("row", wanted_deal(turns, windows)))
        self.assertGreater(taken, 100)

    def test_it_is_the_dealing_of_the_windows_by_the_bounds(self):
        chance = random.Random(161)
        words = set()
        for again in range(200):
            turns = chance.randrange(1, 61)
            spells = drawn_spells(chance, chance.randrange(1, 9), 1, turns)
            bounds = [(Fraction(chance.randrange(15), 12), Fraction(chance.randrange(15), 12)) for w in spells[0][1]]
            windows = wanted_windows(spells, bounds)
            told = dealt(spells, pairs(bounds))
            assert_same(self, told, deal(turns, windows))
            assert_same(self, windows, windows_by_bounds(spells, pairs(bounds)))
            words.add(told[0])
            if told[0] != "row":
                assert_why(self, turns, windows, told)
        self.assertEqual(words, {"row", "crowd", "lack"})

    def test_small_spells_over_all_rows(self):
        chance = random.Random(162)
        words = []
        for clans, turns in ((1, 3), (2, 5), (3, 4), (4, 3)):
            for again in range(12):
                spells = small_spells(chance, clans, turns)
                bounds = [(Fraction(chance.randrange(8), 6), Fraction(chance.randrange(8), 6)) for c in range(clans)]
                kept = [row for row in all_rows(spells) if is_kept(spells, bounds, row)]
                told = dealt(spells, pairs(bounds))
                words.append(told[0])
                if told[0] == "row":
                    self.assertIn(told[1], kept)
                else:
                    self.assertEqual(kept, [])
                    assert_why(self, turns, wanted_windows(spells, bounds), told)
        self.assertGreater(words.count("row"), 8)
        self.assertGreater(len(words) - words.count("row"), 8)

    def test_bounds_of_ten(self):
        for spells in ([(60, [1] * 8)], [(60, [0, 1])], [(60, [3])]):
            self.assertEqual(dealt(spells, [TENS] * len(spells[0][1]))[0], "row")

    def test_wrong_bounds(self):
        for clans in (1, 2, 3, 8):
            spells = drawn_spells(random.Random(163), clans, 2, 7)
            for bounds in wrong_bounds(clans):
                assert_refused(self, NoBounds, dealt, spells, bounds)

    def test_wrong_spells(self):
        for spells in wrong_spells():
            for bounds in ([HALVES] * 2, [], wrong_bounds(2)[4]):
                assert_refused(self, NoSpell, dealt, spells, bounds)

    def test_what_is_handed_in_stays_as_it_was(self):
        chance = random.Random(164)
        for bounds in (HALVES, TENS, ((0, 1), (0, 1))):
            for again in range(30):
                spells = drawn_spells(chance, chance.randrange(1, 9), 1, chance.randrange(1, 61))
                assert_unchanged(self, dealt, spells, [bounds] * len(spells[0][1]))
