import random
import unittest
from fractions import Fraction

from chairclans.errors import NoBounds, NoRow, NoSpell
from chairclans.rows import distance, keeps
from tests.helper import (
    MOST, PLAIN, TINY, all_rows, assert_ratio, assert_refused, assert_same, assert_unchanged, drawn_row, drawn_spells,
    is_kept, just_kept, leads_of, number_of, pairs, small_spells, wanted_distance, wrong_bounds, wrong_rows,
    wrong_spells,
)

HALVES = ((1, 2), (1, 2))
TENS = ((10, 1), (10, 1))
NOUGHTS = ((0, 1), (0, 1))
ROW = [1, 0, 0, 1, 0, 1]


def spells_with_rows():
    """Spells of one to eight clans, one to four spells and up to sixty turns, each with a row."""
    chance = random.Random(8)
    found = []
    for clans in range(1, 9):
        for turns in (1, 2, 5, 12, 31, 60):
            for count in {1, min(2, turns), min(4, turns)}:
                spells = drawn_spells(chance, clans, count, turns)
                found.append((spells, drawn_row(chance, spells)))
                found.append((spells, [chance.randrange(clans) for turn in range(turns)]))
        found.append((spells, [clans - 1] * 60))
    return found


def with_bound(bounds, clan, side, bound):
    """The bounds with another one for a clan, below (side 0) or above (side 1)."""
    changed = [list(one) for one in bounds]
    changed[clan][side] = bound
    return [tuple(one) for one in changed]


class Distance(unittest.TestCase):
    def test_by_name(self):
        self.assertEqual(distance(spells=[(2, [1, 1])], row=[0, 1]), (1, 2))

    def test_plain_ones(self):
        for spells, row, wanted in (
                ([(1, [1])], [0], (0, 1)), ([(3, [1, 0])], [0, 0, 0], (0, 1)), ([(3, [1, 0])], [0, 0, 1], (1, 1)),
                ([(3, [1, 2])], [1, 0, 1], (1, 3)), ([(3, [1, 2])], [0, 1, 1], (2, 3)),
                ([(3, [1, 2])], [1, 1, 0], (2, 3)),
                ([(3, [1, 2])], [0, 0, 0], (2, 1)), ([(3, [1, 2])], [1, 1, 1], (1, 1)),
                ([(1, [1, 1]), (1, [1, 3])], [0, 1], (1, 2)), ([(1, [1, 1]), (1, [1, 3])], [1, 1], (3, 4)),
                ([(2, [1, 0]), (1, [0, 1])], [0, 1, 0], (1, 1)), ([(60, [0, 1])], [0] * 60, (60, 1))):
            with self.subTest(f"{spells} {row}"):
                self.assertEqual(distance(spells, row), wanted)

    def test_the_greatest_over_all_clans_and_turns(self):
        for spells, row in spells_with_rows():
            assert_ratio(self, distance(spells, row), wanted_distance(spells, row))

    def test_all_rows_of_small_spells(self):
        chance = random.Random(80)
        for clans, turns in ((1, 4), (2, 1), (2, 6), (3, 1), (3, 4), (4, 3)):
            for again in range(4):
                spells = small_spells(chance, clans, turns)
                for row in all_rows(spells):
                    assert_ratio(self, distance(spells, row), wanted_distance(spells, row))

    def test_a_wrong_turn_anywhere(self):
        for clan in (1, 2, 3):
            for turn in range(20):
                row = [0] * 20
                row[turn] = clan
                self.assertEqual(distance([(20, [1, 0, 0, 0])], row), (1, 1))

    def test_the_greatest_may_be_behind_or_ahead_and_be_over_before_the_end(self):
        self.assertEqual(distance([(5, [1, 0, 0, 0])], [0, 1, 2, 3, 0]), (3, 1))
        self.assertEqual(distance([(4, [1, 1, 1, 1])], [2, 2, 2, 2]), (3, 1))
        self.assertEqual(distance([(2, [1, 0]), (2, [0, 1])], [1, 1, 0, 0]), (2, 1))
        self.assertEqual(distance([(3, [1, 1, 1]), (3, [1, 1, 1])], [0, 0, 0, 1, 2, 1]), (2, 1))

    def test_one_clan_is_never_apart(self):
        for spells in ([(1, [1])], [(60, [MOST])], [(2, [5]), (3, [7]), (4, [1])]):
            row = [0] * sum(spell[0] for spell in spells)
            self.assertEqual(distance(spells, row), (0, 1))

    def test_weights_of_thirty_figures(self):
        spells = [(1, [MOST, 1])]
        self.assertEqual(distance(spells, [0]), (1, MOST + 1))
        self.assertEqual(distance(spells, [1]), (MOST, MOST + 1))

    def test_wrong_rows(self):
        chance = random.Random(88)
        for clans in (1, 2, 5, 8):
            for turns in (1, 2, 9, 60):
                spells = drawn_spells(chance, clans, 1, turns)
                for row in wrong_rows(turns, clans):
                    assert_refused(self, NoRow, distance, spells, row)

    def test_wrong_spells(self):
        for spells in wrong_spells():
            for row in (ROW, [], [9], [-1] * 6):
                assert_refused(self, NoSpell, distance, spells, row)

    def test_what_is_handed_in_stays_as_it_was(self):
        for spells, row in spells_with_rows():
            assert_unchanged(self, distance, spells, row)


class Keeps(unittest.TestCase):
    def test_by_name(self):
        self.assertIs(keeps(spells=[(2, [1, 1])], bounds=[HALVES] * 2, row=[0, 1]), True)

    def test_plain_ones(self):
        spells = [(3, [1, 2])]
        for bounds, row, wanted in (
                ([HALVES] * 2, [1, 0, 1], True), ([HALVES] * 2, [0, 1, 1], False), ([HALVES] * 2, [1, 1, 0], False),
                ([((1, 3), (1, 3)), ((1, 3), (1, 3))], [1, 0, 1], True),
                ([((1, 3), (1, 3)), ((1, 3), (1, 4))], [1, 0, 1], False),
                ([((1, 3), (1, 3)), ((1, 4), (1, 3))], [1, 0, 1], False),
                ([((1, 3), (1, 4)), ((1, 3), (1, 3))], [1, 0, 1], False),
                ([((1, 4), (1, 3)), ((1, 3), (1, 3))], [1, 0, 1], False),
                ([((0, 1), (2, 3)), ((2, 3), (0, 1))], [0, 1, 1], True),
                ([((2, 3), (0, 1)), ((0, 1), (2, 3))], [0, 1, 1], False)):
            with self.subTest(f"{bounds} {row}"):
                self.assertIs(keeps(spells, bounds, row), wanted)

    def test_bounds_that_are_just_kept(self):
        taken = 0
        for spells, row in spells_with_rows():
            bounds = just_kept(spells, row)
            if max(max(one) for one in bounds) <= 10:
                taken += 1
                self.assertIs(keeps(spells, pairs(bounds), row), True)
                for clan, one in enumerate(bounds):
                    for side in (0, 1):
                        for part in (TINY, one[side] / 2, one[side]):
                            if part > 0 and one[side] >= part:
                                lesser = with_bound(bounds, clan, side, one[side] - part)
                                self.assertIs(keeps(spells, pairs(lesser), row), False)
                        more = with_bound(bounds, clan, side, min(Fraction(10), one[side] + TINY))
                        self.assertIs(keeps(spells, pairs(more), row), True)
        self.assertGreater(taken, 200)

    def test_drawn_bounds_and_all_rows_of_small_spells(self):
        chance = random.Random(9)
        told = []
        for clans, turns in ((1, 3), (2, 5), (3, 4), (4, 3)):
            for again in range(6):
                spells = small_spells(chance, clans, turns)
                bounds = [tuple(Fraction(chance.randrange(7), chance.randrange(1, 5)) for side in (0, 1))
                          for clan in range(clans)]
                for row in all_rows(spells):
                    told.append(keeps(spells, pairs(bounds), row))
                    self.assertIs(told[-1], is_kept(spells, bounds, row))
        self.assertIn(True, told)
        self.assertIn(False, told)

    def test_bounds_of_nought(self):
        self.assertIs(keeps([(4, [7])], [NOUGHTS], [0] * 4), True)
        self.assertIs(keeps([(2, [1, 0]), (1, [0, 5])], [NOUGHTS] * 2, [0, 0, 1]), True)
        self.assertIs(keeps([(2, [1, 0]), (1, [0, 5])], [NOUGHTS] * 2, [0, 1, 0]), False)
        self.assertIs(keeps([(2, [1, 1])], [NOUGHTS] * 2, [0, 1]), False)
        self.assertIs(keeps([(2, [MOST, 1])], [NOUGHTS] * 2, [0, 0]), False)

    def test_bounds_of_ten(self):
        spells = [(60, [1, 0])]
        for late in range(61):
            self.assertIs(keeps(spells, [TENS] * 2, [0] * (60 - late) + [1] * late), late <= 10)
            self.assertIs(keeps(spells, [TENS] * 2, [1] * late + [0] * (60 - late)), late <= 10)
        self.assertIs(keeps([(60, [5])], [TENS], [0] * 60), True)

    def test_bounds_of_many_figures(self):
        chance = random.Random(99)
        spells = [(2, [1, 2])]
        for again in range(20):
            bottom = number_of(chance, 299) * 3
            near = Fraction(bottom // 3, bottom + 1)
            self.assertIs(keeps(spells, pairs([(near, near)] * 2), [1, 0]), False)
            near = Fraction(bottom // 3 + 1, bottom)
            self.assertIs(keeps(spells, pairs([(near, near)] * 2), [1, 0]), True)

    def test_wrong_bounds(self):
        chance = random.Random(90)
        for clans in (1, 2, 3, 8):
            spells = drawn_spells(chance, clans, 2, 7)
            for bounds in wrong_bounds(clans):
                for row in [[0] * 7] + wrong_rows(7, clans)[:9]:
                    assert_refused(self, NoBounds, keeps, spells, bounds, row)

    def test_wrong_rows(self):
        for clans in (1, 2, 5, 8):
            for turns in (1, 9, 60):
                spells = drawn_spells(random.Random(91), clans, 1, turns)
                for row in wrong_rows(turns, clans):
                    for bounds in ([TENS] * clans, [NOUGHTS] * clans):
                        assert_refused(self, NoRow, keeps, spells, bounds, row)

    def test_wrong_spells(self):
        for spells in wrong_spells():
            for bounds in ([HALVES] * 2, [HALVES], wrong_bounds(2)[4]):
                for row in (ROW, [], [-1] * 6):
                    assert_refused(self, NoSpell, keeps, spells, bounds, row)

    def test_a_row_that_breaks_the_bounds_early_is_still_looked_at(self):
        """What is wrong behind the turn that breaks the bounds is refused all the same."""
        for row in ([0, 0, 0, 2], [0, 0, 0, -1], [0, 0, 0], [0, 0, 0, 0, 0]):
            assert_refused(self, NoRow, keeps, [(4, [0, 1])], [NOUGHTS] * 2, row)

    def test_what_is_handed_in_stays_as_it_was(self):
        for spells, row in spells_with_rows():
            assert_unchanged(self, keeps, spells, [HALVES] * len(spells[0][1]), row)

    def test_a_row_keeps_its_distance_as_all_bounds(self):
        for spells, row in spells_with_rows():
            told = distance(spells, row)
            if Fraction(*told) <= 10:
                self.assertIs(keeps(spells, [(told, told)] * len(spells[0][1]), row), True)


class TheReckoningOfTheTests(unittest.TestCase):
    def test_leads(self):
        third = Fraction(1, 3)
        assert_same(self, leads_of(PLAIN, ROW)[:2], [[-third, third], [third, -third]])
