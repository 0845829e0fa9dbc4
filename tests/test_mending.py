import random
import unittest
from fractions import Fraction

from chairclans.errors import NoBounds, NoRow, NoRule, NoSpell
from chairclans.mending import mended
from chairclans.placing import placed
from chairclans.windows import windows as windows_by_bounds
from tests.helper import (
    assert_placed_row, assert_refused, assert_same, assert_stuck, assert_unchanged, assert_whole, comes_at, drawn_row,
    drawn_rules, drawn_spells, few_ruled, is_kept, just_kept, keeps_rules, pairs, rows_kept, ruled, wanted_windows,
    wrong_bounds, wrong_rows, wrong_rules, wrong_spells,
)

ONES = ((1, 1), (1, 1))
HALVES = ((1, 2), (1, 2))
NOUGHTS = ((0, 1), (0, 1))
TEN = (Fraction(10), Fraction(10))


def apart(one, other):
    return sum(1 for clan, former in zip(one, other) if clan != former)


def changed_at(chance, row, clans, count):
    """The row with another clan at so many turns."""
    new = list(row)
    for place in chance.sample(range(len(row)), count):
        new[place] = (row[place] + chance.randrange(1, clans)) % clans
    return new


class Mended(unittest.TestCase):
    def assert_prices(self, windows, rules, row, changes, turn_prices, visit_prices):
        for prices, things in ((turn_prices, row), (visit_prices, windows)):
            self.assertIs(type(prices), list)
            self.assertEqual(len(prices), len(things))
            for price in prices:
                assert_whole(self, price)
        for window, price in zip(windows, visit_prices):
            if window[3] is None:
                self.assertLessEqual(price, 0)
            for turn, clan in enumerate(row, start=1):
                if comes_at(window, rules, turn):
                    self.assertLessEqual(turn_prices[turn - 1] + price, 0 if window[0] == clan else 1)
        self.assertEqual(sum(turn_prices) + sum(visit_prices), changes)

    def assert_mended(self, spells, bounds, rules, row):
        """All that is promised of a mended row, or of what is told where there is none; tells the whole."""
        told = mended(spells, pairs(bounds), rules, row)
        self.assertIs(type(told), tuple)
        self.assertEqual(told[0] == "row", placed(spells, pairs(bounds), rules)[0] == "row")
        if told[0] == "row":
            word, new, changes, turn_prices, visit_prices = told
            assert_placed_row(self, spells, bounds, rules, new)
            assert_whole(self, changes)
            self.assertEqual(changes, apart(new, row))
            windows = wanted_windows(spells, bounds)
            self.assert_prices(windows, rules, row, changes, turn_prices, visit_prices)
        else:
            assert_stuck(self, spells, bounds, rules, told)
        return told

    def test_by_name(self):
        told = mended(spells=[(2, [1, 1])], bounds=[HALVES] * 2, rules=[], row=[0, 0])
        assert_same(self, told[:3], ("row", [0, 1], 1))

    def test_plain_ones(self):
        for spells, bounds, rules, row, new, changes in (
                ([(2, [1, 1])], [HALVES] * 2, [], [1, 1], [1, 0], 1),
                ([(2, [1, 1])], [HALVES] * 2, [], [1, 0], [1, 0], 0),
                ([(2, [1, 1])], [HALVES] * 2, [("fixed", 1, 0)], [1, 0], [0, 1], 2),
                ([(3, [1, 2])], [((1, 3), (1, 3))] * 2, [], [0, 0, 0], [1, 0, 1], 2),
                ([(3, [0, 1])], [NOUGHTS] * 2, [], [0, 0, 0], [1, 1, 1], 3),
                ([(1, [1])], [NOUGHTS], [], [0], [0], 0)):
            with self.subTest(f"{spells} {rules} {row}"):
                assert_same(self, mended(spells, bounds, rules, row)[:3], ("row", new, changes))

    def test_plain_prices(self):
        word, new, changes, turn_prices, visit_prices = mended([(1, [1, 1])], [HALVES] * 2, [("fixed", 1, 1)], [0])
        self.assertEqual((new, changes), ([1], 1))
        self.assertEqual(len(turn_prices), 1)
        self.assertEqual(len(visit_prices), len(windows_by_bounds([(1, [1, 1])], [HALVES] * 2)))

    def test_up_to_sixteen_turns(self):
        told = [self.assert_mended(*case) for case in ruled(50, 16, 150)]
        words = [one[0] for one in told]
        self.assertGreater(min(words.count(word) for word in ("row", "visits", "turns")), 20)
        changes = {one[2] for one in told if one[0] == "row"}
        self.assertTrue(changes > {0, 1, 2, 3, 4, 5}, changes)

    def test_up_to_sixty_turns(self):
        told = [self.assert_mended(*case)[0] for case in ruled(51, 60, 25)]
        self.assertGreater(told.count("row"), 10)
        self.assertGreater(len(told) - told.count("row"), 10)

    def test_rows_of_one_clan_of_many_turns(self):
        chance = random.Random(52)
        for clans in (2, 5, 8):
            for turns in (20, 40, 60):
                spells = drawn_spells(chance, clans, 3, turns)
                for bounds in ([(Fraction(1), Fraction(1))] * clans, [(Fraction(3), Fraction(5, 2))] * clans, [TEN] * clans):
                    rules = drawn_rules(chance, turns, clans, 1)
                    self.assertEqual(self.assert_mended(spells, bounds, rules, [0] * turns)[0], "row")
                    drawn = [chance.randrange(clans) for turn in range(turns)]
                    self.assertEqual(self.assert_mended(spells, bounds, [], drawn)[0], "row")

    def test_every_number_of_clans(self):
        chance = random.Random(53)
        for clans in range(1, 9):
            for turns in (1, 2, 5, 16):
                spells = drawn_spells(chance, clans, 1, turns)
                drawn = [chance.randrange(clans) for turn in range(turns)]
                told = self.assert_mended(spells, [(Fraction(1), Fraction(1))] * clans, [], drawn)
                self.assertEqual(told[0], "row")

    def test_a_row_that_keeps_all_comes_back(self):
        taken = 0
        for spells, bounds, rules, row in ruled(54, 16, 120) + ruled(55, 60, 15):
            if is_kept(spells, bounds, row) and keeps_rules(rules, row):
                taken += 1
                told = self.assert_mended(spells, bounds, rules, row)
                assert_same(self, told[:3], ("row", row, 0))
        self.assertGreater(taken, 80)

    def test_a_row_with_a_turn_or_two_changed(self):
        chance = random.Random(56)
        changes = []
        for spells, bounds, rules, row in ruled(57, 16, 100) + ruled(58, 60, 10):
            clans = len(spells[0][1])
            if clans > 1 and is_kept(spells, bounds, row) and keeps_rules(rules, row):
                for count in range(1, min(2, len(row)) + 1):
                    told = self.assert_mended(spells, bounds, rules, changed_at(chance, row, clans, count))
                    self.assertEqual(told[0], "row")
                    self.assertLessEqual(told[2], count)
                    changes.append(told[2])
        self.assertGreater(min(changes.count(1), changes.count(2)), 10)

    def test_the_fewest_changes_over_all_rows(self):
        changes = []
        for spells, bounds, rules, row in few_ruled(59, 30):
            told = self.assert_mended(spells, bounds, rules, row)
            kept = rows_kept(spells, bounds, rules)
            self.assertEqual(told[0] == "row", kept != [])
            if kept:
                self.assertIn(told[1], kept)
                self.assertEqual(told[2], min(apart(other, row) for other in kept))
                changes.append(told[2])
        self.assertGreater(min(changes.count(one) for one in (0, 1, 2, 3)), 5)

    def test_the_fewest_changes_by_narrow_bounds(self):
        """Bounds that a drawn row just keeps let few other rows, and leave due visits to be bought dearly."""
        chance = random.Random(60)
        for clans, turns in ((2, 8), (3, 5), (4, 4)):
            for again in range(15):
                spells = drawn_spells(chance, clans, 2, turns)
                bounds = just_kept(spells, drawn_row(chance, spells))
                row = [chance.randrange(clans) for turn in range(turns)]
                told = self.assert_mended(spells, bounds, [], row)
                self.assertEqual(told[2], min(apart(other, row) for other in rows_kept(spells, bounds, [])))

    def test_fixed_turns_are_changed(self):
        chance = random.Random(61)
        for clans in (2, 3, 8):
            spells = [(16, [1] * clans)]
            row = [chance.randrange(clans) for turn in range(16)]
            for turn in (1, 8, 16):
                for clan in range(clans):
                    told = self.assert_mended(spells, [TEN] * clans, [("fixed", turn, clan)], row)
                    self.assertEqual(told[2], 0 if row[turn - 1] == clan else 1)
                    told = self.assert_mended(spells, [TEN] * clans, [("barred", turn, clan)], row)
                    self.assertEqual(told[2], 1 if row[turn - 1] == clan else 0)

    def test_all_turns_changed(self):
        for clans in range(2, 9):
            spells = [(12, [0] * (clans - 1) + [1])]
            told = self.assert_mended(spells, [(Fraction(0), Fraction(0))] * clans, [], [0] * 12)
            assert_same(self, told[:3], ("row", [clans - 1] * 12, 12))

    def test_no_due_visit_is_left_out_for_the_row_handed_in(self):
        for turns in (1, 2, 5, 16, 60):
            # The first clan could have ten turns without a change, were the other one's visits not due.
            told = self.assert_mended([(turns, [0, 1])], [TEN, (Fraction(0), Fraction(10))], [], [0] * turns)
            assert_same(self, told[:3], ("row", [1] * turns, turns))
            told = self.assert_mended([(turns, [1, 0])], [(Fraction(0), Fraction(10)), TEN], [], [1] * turns)
            assert_same(self, told[:3], ("row", [0] * turns, turns))

    def test_no_row(self):
        for rules in ([("barred", 2, 0), ("barred", 2, 1)], [("fixed", 1, 0), ("fixed", 1, 1)]):
            for row in ([0, 0, 0], [1, 0, 1]):
                told = self.assert_mended([(3, [1, 1])], [TEN] * 2, rules, row)
                self.assertIn(told[0], ("visits", "turns"))

    def test_wrong_rows(self):
        chance = random.Random(62)
        for clans, turns in ((1, 1), (1, 5), (2, 6), (3, 60), (8, 9)):
            spells = drawn_spells(chance, clans, 1, turns)
            for row in wrong_rows(turns, clans):
                assert_refused(self, NoRow, mended, spells, [ONES] * clans, [("fixed", 1, 0)], row)
                assert_refused(self, NoRow, mended, spells, [NOUGHTS] * clans, [("barred", 1, 0)], row)

    def test_wrong_rules(self):
        for clans, turns in ((1, 1), (2, 6), (3, 60), (8, 9)):
            spells = [(turns, [1] * clans)]
            for rules in wrong_rules(turns, clans):
                for row in ([0] * turns, [], [clans] * turns, [0] * (turns + 1), [-1] * turns):
                    assert_refused(self, NoRule, mended, spells, [ONES] * clans, rules, row)

    def test_wrong_bounds(self):
        for clans in (1, 2, 8):
            spells = [(6, [1] * clans)]
            for bounds in wrong_bounds(clans):
                for rules in ([], [("fix", 1, 0)], [("barred", 7, 0)]):
                    for row in ([0] * 6, [], [clans] * 6):
                        assert_refused(self, NoBounds, mended, spells, bounds, rules, row)

    def test_wrong_spells(self):
        for spells in wrong_spells():
            for bounds, rules, row in (([ONES] * 2, [], [0] * 6), ([], [], [0] * 6), ([ONES] * 2, [("fix", 1, 0)], []),
                                       (wrong_bounds(2)[4], [("barred", 0, 0)], [2]), ([ONES] * 2, [], [-1])):
                assert_refused(self, NoSpell, mended, spells, bounds, rules, row)

    def test_what_is_handed_in_stays_as_it_was(self):
        for spells, bounds, rules, row in ruled(63, 16, 60) + ruled(64, 60, 6):
            assert_unchanged(self, mended, spells, pairs(bounds), rules, row)
