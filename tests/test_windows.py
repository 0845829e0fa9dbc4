import random
import unittest
from fractions import Fraction

from chairclans.errors import NoBounds, NoDistance, NoSpell
from chairclans.windows import windows, windows_less
from tests.helper import (
    MOST, TINY, all_rows, assert_refused, assert_same, assert_unchanged, assert_whole, drawn_row, drawn_spells, is_kept,
    just_kept, lies_in, pair, pairs, quota_rows, small_spells, wanted_distance, wanted_less, wanted_windows,
    wrong_bounds, wrong_spells,
)

HALF = Fraction(1, 2)
HALVES = ((1, 2), (1, 2))
TEN = Fraction(10)
WRONG_DISTANCES = (
    (0, 1), (-1, 1), (-1, 2), (-1, 10 ** 299), (-10 ** 299, 1), (11, 1), (21, 2), (10 ** 299 + 1, 10 ** 298),
    (10 ** 21 + 1, 10 ** 20), (10 ** 299, 1),
)


def many_spells(seed):
    chance = random.Random(seed)
    found = [[(60, [1, 0])], [(60, [0, 0, 5])], [(1, [1, 1])], [(1, [3])], [(2, [1, 0, 0]), (3, [0, 0, 1])]]
    for clans in range(1, 9):
        for turns in (1, 2, 7, 20, 60):
            for count in {1, min(3, turns)}:
                found.append(drawn_spells(chance, clans, count, turns))
    return found


def apart(spells):
    """How far quotas are from whole numbers near them, both ways."""
    gaps = set()
    for row in quota_rows(spells):
        for quota in row:
            rest = quota - quota.numerator // quota.denominator
            gaps |= {rest, 1 - rest, 1 + rest, 2 - rest}
    return sorted(gap for gap in gaps if gap > 0)


def drawn_bound(chance, gaps):
    """A bound that is just as far as some quota is from a whole number, or a little off that, or anything."""
    near = chance.choice(gaps)
    return min(TEN, chance.choice((
        Fraction(0), TEN, near, near, near + TINY, max(Fraction(0), near - TINY), Fraction(chance.randrange(40), 7),
        Fraction(chance.randrange(10 ** 30), 10 ** 29))))


def many_bounds(seed):
    """Spells, each with several bounds for its clans."""
    chance = random.Random(seed)
    found = []
    for spells in many_spells(seed):
        clans = range(len(spells[0][1]))
        for bound in (Fraction(0), HALF, Fraction(1), TEN):
            found.append((spells, [(bound, bound) for clan in clans]))
        found.append((spells, [(Fraction(0), TEN) for clan in clans]))
        found.append((spells, [(TEN, Fraction(0)) for clan in clans]))
        gaps = apart(spells)
        for again in range(2):
            found.append((spells, [(drawn_bound(chance, gaps), drawn_bound(chance, gaps)) for clan in clans]))
    return found


def many_distances(seed):
    chance = random.Random(seed)
    found = []
    for spells in many_spells(seed):
        near = chance.choice(apart(spells))
        for least in (near, near + TINY, near - TINY, HALF, Fraction(1), TEN, TEN - TINY, TINY):
            if least > 0:
                found.append((spells, least))
    return found


def is_within(lesser, greater, turns):
    """Whether each visit that may come by the lesser windows may come there by the greater, and need not sooner."""
    spans = {(clan, j): (opens, last) for clan, j, opens, last in greater}
    for clan, j, opens, last in lesser:
        wide = spans.get((clan, j), (turns + 1, None))
        if wide[0] > opens or (wide[1] is not None and (last is None or wide[1] < last)):
            return False
    due = [(clan, j) for clan, j, opens, last in lesser if last is not None]
    return all(last is None or (clan, j) in due for clan, j, opens, last in greater)


class Windows(unittest.TestCase):
    def test_by_name(self):
        assert_same(self, windows(spells=[(1, [1])], bounds=[HALVES]), [(0, 1, 1, 1)])

    def test_plain_ones(self):
        assert_same(self, windows([(3, [1, 2])], [HALVES] * 2), [(0, 1, 2, 2), (1, 1, 1, 1), (1, 2, 3, 3)])
        assert_same(self, windows([(2, [1, 1])], [HALVES] * 2), [(0, 1, 1, 2), (1, 1, 1, 2)])
        assert_same(self, windows([(2, [1, 1])], [((1, 1), (0, 1)), ((0, 1), (1, 1))]), [
            (0, 1, 2, None), (1, 1, 1, 1), (1, 2, 2, None)])

    def test_due_but_opening_behind_the_last_turn(self):
        assert_same(self, windows([(1, [1, 1])], [((0, 1), (0, 1))] * 2), [(0, 1, 2, 1), (1, 1, 2, 1)])

    def test_opening_behind_its_own_last_turn(self):
        assert_same(self, windows([(4, [1, 3])], [((0, 1), (0, 1))] * 2), [
            (0, 1, 4, 1), (1, 1, 2, 1), (1, 2, 3, 2), (1, 3, 4, 3)])

    def test_clans_of_weight_nought(self):
        assert_same(self, windows([(2, [1, 0])], [((0, 1), (0, 1))] * 2), [(0, 1, 1, 1), (0, 2, 2, 2)])
        assert_same(self, windows([(2, [1, 0])], [((0, 1), (0, 1)), ((0, 1), (2, 1))]), [
            (0, 1, 1, 1), (0, 2, 2, 2), (1, 1, 1, None), (1, 2, 1, None)])

    def test_a_clan_of_weight_nought_from_a_turn_on(self):
        assert_same(self, windows([(1, [1, 1]), (2, [0, 1])], [((1, 4), (1, 2))] * 2), [
            (0, 1, 1, 1), (1, 1, 1, 1), (1, 2, 2, 2), (1, 3, 3, 3)])

    def test_all_visits_by_a_look_at_every_turn(self):
        for spells, bounds in many_bounds(10):
            assert_same(self, windows(spells, pairs(bounds)), wanted_windows(spells, bounds))

    def test_bounds_that_a_row_just_keeps(self):
        chance = random.Random(101)
        for spells in many_spells(102):
            row = drawn_row(chance, spells)
            bounds = just_kept(spells, row)
            if max(max(one) for one in bounds) <= 10:
                told = windows(spells, pairs(bounds))
                assert_same(self, told, wanted_windows(spells, bounds))
                self.assertTrue(lies_in(row, told))

    def test_the_kinds_and_the_order(self):
        for spells, bounds in many_bounds(103):
            told = windows(spells, pairs(bounds))
            self.assertIs(type(told), list)
            for window in told:
                self.assertIs(type(window), tuple)
                self.assertEqual(len(window), 4)
                for number in window[:3]:
                    assert_whole(self, number)
                if window[3] is not None:
                    assert_whole(self, window[3])
            assert_same(self, [window[:2] for window in told], sorted(window[:2] for window in told))

    def test_the_cases_hold_every_kind_of_visit(self):
        kinds = set()
        for spells, bounds in many_bounds(10):
            turns = sum(spell[0] for spell in spells)
            told = windows(spells, pairs(bounds))
            if {window[0] for window in told} != set(range(len(bounds))):
                kinds.add("a clan without a window")
            for clan, j, opens, last in told:
                if turns > 1 and opens in (1, turns):
                    kinds.add("opens first" if opens == 1 else "opens at the end")
                kinds.add("need not come" if last is None else "due")
                if last is not None and opens > last:
                    kinds.add("opens behind all" if opens > turns else "opens behind its last turn")
        self.assertEqual(kinds, {
            "a clan without a window", "opens first", "opens at the end", "need not come", "due", "opens behind all",
            "opens behind its last turn"})

    def test_a_row_keeps_the_bounds_just_where_it_lies_in_the_windows(self):
        chance = random.Random(11)
        kept = []
        for clans, turns in ((1, 3), (2, 1), (2, 5), (2, 6), (3, 2), (3, 4), (4, 3)):
            for again in range(8):
                spells = small_spells(chance, clans, turns)
                gaps = apart(spells)
                bounds = [(drawn_bound(chance, gaps), drawn_bound(chance, gaps)) for clan in range(clans)]
                told = windows(spells, pairs(bounds))
                for row in all_rows(spells):
                    kept.append(is_kept(spells, bounds, row))
                    self.assertIs(lies_in(row, told), kept[-1], f"{spells} {bounds} {row}")
        self.assertIn(True, kept)
        self.assertIn(False, kept)

    def test_wrong_bounds(self):
        for clans in (1, 2, 3, 8):
            spells = drawn_spells(random.Random(104), clans, 2, 7)
            for bounds in wrong_bounds(clans):
                assert_refused(self, NoBounds, windows, spells, bounds)

    def test_wrong_spells(self):
        for spells in wrong_spells():
            for bounds in ([HALVES] * 2, [], wrong_bounds(2)[4]):
                assert_refused(self, NoSpell, windows, spells, bounds)

    def test_what_is_handed_in_stays_as_it_was(self):
        for spells, bounds in many_bounds(105):
            assert_unchanged(self, windows, spells, pairs(bounds))


class WindowsLess(unittest.TestCase):
    def test_by_name(self):
        assert_same(self, windows_less(spells=[(1, [1])], least=(1, 2)), [(0, 1, 1, 1)])

    def test_plain_ones(self):
        assert_same(self, windows_less([(2, [1, 1])], (1, 2)), [(0, 1, 2, 1), (1, 1, 2, 1)])
        assert_same(self, windows_less([(2, [1, 1])], (2, 3)), [(0, 1, 1, 2), (1, 1, 1, 2)])
        assert_same(self, windows_less([(2, [1, 0])], (1, 1)), [(0, 1, 1, 1), (0, 2, 2, 2)])
        assert_same(self, windows_less([(2, [1, 0])], (3, 2)), [
            (0, 1, 1, 2), (0, 2, 1, None), (0, 3, 2, None), (1, 1, 1, None)])

    def test_all_visits_by_a_look_at_every_turn(self):
        for spells, least in many_distances(12):
            assert_same(self, windows_less(spells, pair(least)), wanted_less(spells, least))

    def test_just_as_far_as_some_quota_is_from_a_whole_number(self):
        chance = random.Random(121)
        others = 0
        for spells in many_spells(122):
            gaps = apart(spells)
            for least in chance.sample(gaps, min(3, len(gaps))):
                told = windows_less(spells, pair(least))
                assert_same(self, told, wanted_less(spells, least))
                others += told != windows(spells, pairs([(least, least)] * len(spells[0][1])))
        # Here "less than" and "at most" are not the same for most of them.
        self.assertGreater(others, 150)

    def test_thirty_figures_just_as_far(self):
        spells = [(1, [MOST, 1])]
        assert_same(self, windows_less(spells, (1, MOST + 1)), [(0, 1, 2, 1), (1, 1, 2, 1)])
        assert_same(self, windows_less(spells, (2, MOST + 1)), [(0, 1, 1, 1)])

    def test_the_windows_of_a_lesser_distance_lie_in_those_of_a_greater(self):
        chance = random.Random(123)
        for spells in many_spells(124):
            turns = sum(spell[0] for spell in spells)
            gaps = apart(spells)
            found = sorted(max(TINY, drawn_bound(chance, gaps)) for again in range(6))
            told = [windows_less(spells, pair(least)) for least in found]
            for lesser, greater in zip(told, told[1:]):
                self.assertTrue(is_within(lesser, greater, turns))

    def test_rows_of_less_than_the_distance_lie_in_them(self):
        chance = random.Random(125)
        for clans, turns in ((2, 5), (3, 4), (4, 3)):
            for again in range(6):
                spells = small_spells(chance, clans, turns)
                least = chance.choice(apart(spells))
                told = windows_less(spells, pair(least))
                for row in all_rows(spells):
                    self.assertIs(lies_in(row, told), wanted_distance(spells, row) < least)

    def test_ten_is_taken(self):
        for spells in many_spells(126):
            assert_same(self, windows_less(spells, (10, 1)), wanted_less(spells, TEN))

    def test_wrong_distances(self):
        for spells in ([(1, [1])], [(5, [1, 2]), (5, [2, 1])], [(60, [MOST] * 8)]):
            for least in WRONG_DISTANCES:
                assert_refused(self, NoDistance, windows_less, spells, least)

    def test_wrong_spells(self):
        for spells in wrong_spells():
            for least in ((1, 2), (0, 1), (11, 1)):
                assert_refused(self, NoSpell, windows_less, spells, least)

    def test_what_is_handed_in_stays_as_it_was(self):
        for spells, least in many_distances(127):
            assert_unchanged(self, windows_less, spells, pair(least))
