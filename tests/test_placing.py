import itertools
import random
import unittest
from fractions import Fraction

from chairclans.dealing import dealt
from chairclans.errors import NoBounds, NoRule, NoSpell
from chairclans.placing import placed
from tests.helper import (
    assert_placed_row, assert_refused, assert_row, assert_same, assert_stuck, assert_unchanged, drawn_bounds, drawn_row,
    drawn_rules, drawn_spells, few_ruled, just_kept, pairs, rows_kept, ruled, wanted_windows, wrong_bounds, wrong_rules,
    wrong_spells,
)

NOUGHT = (Fraction(0), Fraction(0))
ONE = (Fraction(1), Fraction(1))
TEN = (Fraction(10), Fraction(10))
ONES = ((1, 1), (1, 1))
HALVES = ((1, 2), (1, 2))


class Placed(unittest.TestCase):
    def assert_placed(self, spells, bounds, rules):
        """A row that keeps all, or visits or turns that stand against one; tells which."""
        told = placed(spells, pairs(bounds), rules)
        self.assertIs(type(told), tuple)
        self.assertEqual(len(told), 2)
        if told[0] == "row":
            assert_placed_row(self, spells, bounds, rules, told[1])
        else:
            assert_stuck(self, spells, bounds, rules, told)
        return told[0]

    def assert_no_row(self, spells, bounds, rules):
        self.assertNotEqual(self.assert_placed(spells, bounds, rules), "row")

    def test_by_name(self):
        told = placed(spells=[(2, [1, 1])], bounds=[HALVES] * 2, rules=[("fixed", 1, 1)])
        assert_same(self, told, ("row", [1, 0]))

    def test_plain_rows(self):
        for spells, bounds, rules, row in (
                ([(2, [1, 1])], [HALVES] * 2, [("barred", 1, 0)], [1, 0]),
                ([(2, [1, 1])], [HALVES] * 2, [("barred", 2, 0)], [0, 1]),
                ([(3, [1, 2])], [((1, 3), (1, 3)), ((1, 3), (1, 3))], [], [1, 0, 1]),
                ([(3, [1, 1, 1])], [((2, 3), (2, 3))] * 3, [("fixed", 3, 0), ("fixed", 1, 2)], [2, 1, 0]),
                ([(1, [1])], [((0, 1), (0, 1))], [("fixed", 1, 0)], [0]),
                ([(2, [0, 1]), (1, [1, 0])], [((0, 1), (0, 1))] * 2, [], [1, 1, 0])):
            with self.subTest(f"{spells} {rules}"):
                assert_same(self, placed(spells, bounds, rules), ("row", row))

    def test_plain_visits_and_turns(self):
        assert_same(self, placed([(1, [1])], [((0, 1), (10, 1))], [("barred", 1, 0)])[0], "visits")
        assert_same(self, placed([(1, [1])], [((1, 1), (10, 1))], [("barred", 1, 0)]), ("turns", [1]))
        assert_same(self, placed([(1, [1])], [((0, 1), (0, 1))], [("barred", 1, 0)])[1], [(0, 1)])
        told = placed([(2, [1, 1])], [((0, 1), (1, 1)), ((10, 1), (10, 1))], [("fixed", 1, 1)])
        assert_same(self, told, ("visits", [(0, 1)]))
        told = placed([(3, [1, 1])], [((10, 1), (0, 1)), ((10, 1), (10, 1))], [("fixed", 1, 0), ("fixed", 3, 0)])
        self.assertEqual(told[0], "turns")

    def test_up_to_sixteen_turns(self):
        told = [self.assert_placed(*case[:3]) for case in ruled(30, 16, 220)]
        self.assertGreater(min(told.count(word) for word in ("row", "visits", "turns")), 30)

    def test_up_to_sixty_turns(self):
        told = [self.assert_placed(*case[:3]) for case in ruled(31, 60, 25)]
        self.assertGreater(min(told.count(word) for word in ("row", "visits", "turns")), 5)

    def test_every_number_of_clans_and_turns(self):
        chance = random.Random(32)
        for clans in range(1, 9):
            for turns in range(1, 17):
                spells = drawn_spells(chance, clans, 1, turns)
                self.assert_placed(spells, drawn_bounds(chance, clans), drawn_rules(chance, turns, clans, 2))

    def test_rules_that_a_row_keeps(self):
        cases = ruled(33, 16, 150) + ruled(34, 60, 15)
        kept = [(spells, bounds, rules) for spells, bounds, rules, row in cases
                if just_kept(spells, row) == bounds and all((row[t - 1] == c) == (w == "fixed") for w, t, c in rules)]
        self.assertGreater(len(kept), 100)
        for spells, bounds, rules in kept:
            self.assertEqual(self.assert_placed(spells, bounds, rules), "row")

    def test_every_turn_fixed(self):
        chance = random.Random(35)
        for clans in range(1, 9):
            for turns in (1, 2, 7, 16, 60):
                spells = drawn_spells(chance, clans, 1, turns)
                row = drawn_row(chance, spells)
                bounds = just_kept(spells, row)
                if max(max(one) for one in bounds) <= 10:
                    rules = [("fixed", turn, clan) for turn, clan in enumerate(row, start=1)]
                    assert_same(self, placed(spells, pairs(bounds), rules[::-1]), ("row", row))
                    barred = [("barred", turn, other) for turn, clan in enumerate(row, start=1)
                              for other in range(clans) if other != clan]
                    assert_same(self, placed(spells, pairs(bounds), barred), ("row", row))

    def test_no_rules_are_as_the_dealing(self):
        chance = random.Random(36)
        words = set()
        for again in range(250):
            clans, turns = chance.randrange(1, 9), chance.randrange(1, 17)
            spells = drawn_spells(chance, clans, min(turns, chance.randrange(1, 4)), turns)
            bounds = drawn_bounds(chance, clans)
            told = self.assert_placed(spells, bounds, [])
            words.add(told)
            self.assertEqual(told == "row", dealt(spells, pairs(bounds))[0] == "row")
        self.assertEqual(words, {"row", "visits", "turns"})

    def test_few_turns_over_all_rows(self):
        words = []
        for spells, bounds, rules, row in few_ruled(37, 30):
            told = self.assert_placed(spells, bounds, rules)
            words.append(told)
            self.assertEqual(told == "row", rows_kept(spells, bounds, rules) != [])
        self.assertGreater(min(words.count(word) for word in ("row", "visits", "turns")), 20)

    def test_a_row_that_only_the_rules_hinder(self):
        """Of few turns each rule, and each two of them, by wide and by narrow bounds."""
        spells = [(2, [1, 1]), (1, [2, 0])]
        single = [(word, turn, clan) for word in ("fixed", "barred") for turn in (1, 2, 3) for clan in (0, 1)]
        for bounds in ([ONE] * 2, [(Fraction(1, 2), Fraction(1, 2))] * 2, [NOUGHT, TEN], [TEN, NOUGHT], [TEN] * 2):
            for rules in itertools.product(single, repeat=2):
                told = self.assert_placed(spells, bounds, list(rules))
                self.assertEqual(told == "row", rows_kept(spells, bounds, rules) != [])

    def test_a_turn_barred_to_every_clan(self):
        chance = random.Random(38)
        for clans in range(1, 9):
            for turns in (1, 2, 9, 16):
                for turn in {1, (turns + 1) // 2, turns}:
                    spells = drawn_spells(chance, clans, 1, turns)
                    rules = [("barred", turn, clan) for clan in range(clans)]
                    for bounds in ([TEN] * clans, [ONE] * clans, drawn_bounds(chance, clans)):
                        self.assert_no_row(spells, bounds, rules)
                    if clans > 1:
                        self.assertEqual(self.assert_placed(spells, [TEN] * clans, rules[1:]), "row")

    def test_a_turn_fixed_for_two_clans(self):
        chance = random.Random(39)
        for clans in range(2, 9):
            for turns in (1, 2, 9, 16):
                for turn in {1, (turns + 1) // 2, turns}:
                    spells = drawn_spells(chance, clans, 1, turns)
                    rules = [("fixed", turn, clans - 1), ("fixed", turn, 0)]
                    for bounds in ([TEN] * clans, [ONE] * clans, drawn_bounds(chance, clans)):
                        self.assert_no_row(spells, bounds, rules)

    def test_a_turn_fixed_for_a_clan_and_barred_to_it(self):
        for turn in (1, 2, 3):
            self.assert_no_row([(3, [1, 1])], [TEN] * 2, [("fixed", turn, 1), ("barred", turn, 1)])
            self.assert_no_row([(3, [1, 1])], [TEN] * 2, [("barred", turn, 0), ("fixed", turn, 0)])

    def test_rules_twice_change_nothing(self):
        for spells, bounds, rules, row in ruled(40, 16, 40):
            told = self.assert_placed(spells, bounds, rules + rules)
            self.assertEqual(told, self.assert_placed(spells, bounds, rules))

    def test_the_order_of_the_rules_changes_nothing(self):
        for spells, bounds, rules, row in ruled(41, 16, 40):
            told = self.assert_placed(spells, bounds, rules[::-1])
            self.assertEqual(told == "row", self.assert_placed(spells, bounds, rules) == "row")

    def test_a_clan_with_a_due_visit_barred_from_all_turns(self):
        for clans in range(2, 9):
            for turns in (4, 16):
                spells = [(turns, [clans - 1] + [1] * (clans - 1))]
                rules = [("barred", turn, 0) for turn in range(1, turns + 1)]
                bounds = [ONE] + [TEN] * (clans - 1)
                self.assertIsNotNone(wanted_windows(spells, bounds)[0][3])
                self.assert_no_row(spells, bounds, rules)
                self.assertEqual(self.assert_placed(spells, [TEN] * clans, rules), "row")

    def test_a_clan_with_a_due_visit_barred_from_a_stretch(self):
        spells = [(16, [1, 1])]
        bounds = [ONE, TEN]
        for window in wanted_windows(spells, bounds):
            clan, j, opens, last = window
            if clan == 0 and last is not None:
                stretch = [("barred", turn, 0) for turn in range(opens, last + 1)]
                self.assert_no_row(spells, bounds, stretch)
                self.assertEqual(self.assert_placed(spells, bounds, stretch[1:]), "row")
                self.assertEqual(self.assert_placed(spells, bounds, stretch[:-1]), "row")

    def test_turns_fixed_for_a_clan_that_may_not_be_ahead(self):
        spells = [(8, [1, 1])]
        bounds = [(Fraction(10), Fraction(0)), TEN]
        for first, second in itertools.combinations(range(1, 9), 2):
            told = self.assert_placed(spells, bounds, [("fixed", second, 0), ("fixed", first, 0)])
            self.assertEqual(told == "row", first >= 2 and second >= 4)

    def test_bounds_of_nought(self):
        for spells, row in (([(3, [1, 0]), (2, [0, 1])], [0, 0, 0, 1, 1]), ([(4, [7])], [0] * 4)):
            clans = len(spells[0][1])
            assert_same(self, placed(spells, pairs([NOUGHT] * clans), []), ("row", row))
            for turn, clan in enumerate(row, start=1):
                fixed, barred = [("fixed", turn, clan)], [("barred", turn, clan)]
                self.assertEqual(self.assert_placed(spells, [NOUGHT] * clans, fixed), "row")
                self.assert_no_row(spells, [NOUGHT] * clans, barred)
        for clans in range(2, 9):
            self.assert_no_row([(4, [1] * clans)], [NOUGHT] * clans, [])

    def test_bounds_of_ten(self):
        # Nothing hinders a clan from any ten turns in so few.
        for row in itertools.product(range(3), repeat=5):
            rules = [("fixed", turn, clan) for turn, clan in enumerate(row, start=1)]
            assert_same(self, placed([(5, [1, 0, 5])], pairs([TEN] * 3), rules), ("row", list(row)))
        rules = [("fixed", turn, 0) for turn in range(1, 21)]
        self.assertEqual(self.assert_placed([(60, [1, 1])], [TEN] * 2, rules), "row")
        self.assert_no_row([(60, [1, 1])], [TEN] * 2, rules + [("fixed", 21, 0)])
        self.assertEqual(self.assert_placed([(60, [0, 1])], [TEN] * 2, rules[:10]), "row")
        self.assert_no_row([(60, [0, 1])], [TEN] * 2, rules[:11])

    def test_the_row_is_one_of_clans(self):
        assert_row(self, placed([(3, [1, 2])], [ONES] * 2, [])[1])

    def test_wrong_rules(self):
        chance = random.Random(42)
        for clans, turns in ((1, 1), (1, 5), (2, 6), (3, 60), (8, 9)):
            spells = drawn_spells(chance, clans, 1, turns)
            for rules in wrong_rules(turns, clans):
                assert_refused(self, NoRule, placed, spells, [ONES] * clans, rules)

    def test_wrong_rules_where_there_is_no_row_anyway(self):
        for rules in wrong_rules(3, 2):
            assert_refused(self, NoRule, placed, [(3, [1, 1])], [((0, 1), (0, 1))] * 2, rules)

    def test_wrong_bounds(self):
        for clans in (1, 2, 8):
            spells = drawn_spells(random.Random(43), clans, 1, 6)
            for bounds in wrong_bounds(clans):
                for rules in ([], [("fixed", 1, 0)], [("fix", 1, 0)], [("barred", 0, 0)], [("fixed", 1, clans)]):
                    assert_refused(self, NoBounds, placed, spells, bounds, rules)

    def test_wrong_spells(self):
        for spells in wrong_spells():
            for bounds in ([ONES] * 2, [], wrong_bounds(2)[4]):
                for rules in ([], [("fix", 1, 0)], [("barred", 61, 0)], [("fixed", 1, -1)]):
                    assert_refused(self, NoSpell, placed, spells, bounds, rules)

    def test_what_is_handed_in_stays_as_it_was(self):
        for spells, bounds, rules, row in ruled(44, 16, 60) + ruled(45, 60, 6):
            assert_unchanged(self, placed, spells, pairs(bounds), rules)
