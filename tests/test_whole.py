"""What is promised over the whole program: the modules' answers held against one another."""

import random
import unittest
from fractions import Fraction

from chairclans.dealing import dealt
from chairclans.desk import Desk
from chairclans.least import least, promised
from chairclans.mending import mended
from chairclans.placing import placed
from chairclans.rounds import round_of
from chairclans.rows import distance, keeps
from chairclans.spells import quotas, turns_of
from tests.helper import TINY, assert_same, drawn_spells, number_of, pair, pairs, ruled


def many_spells(seed, times):
    chance = random.Random(seed)
    found = []
    for again in range(times):
        turns = chance.choice((1, 2, 5, 12, 30, 60))
        found.append(drawn_spells(chance, chance.randrange(1, 9), min(turns, chance.randrange(1, 9)), turns))
    return found


def alike(spells, one):
    """The same bounds for all clans, below and above."""
    return [(one, one)] * len(spells[0][1])


class TheWhole(unittest.TestCase):
    def test_the_least_row_is_kept_placed_and_not_to_be_mended(self):
        for spells in many_spells(70, 80):
            told, row, why = least(spells)
            bounds = alike(spells, told)
            self.assertTrue(keeps(spells, bounds, row))
            assert_same(self, distance(spells, row), told)
            assert_same(self, dealt(spells, bounds), ("row", row))
            self.assertEqual(placed(spells, bounds, [])[0], "row")
            assert_same(self, mended(spells, bounds, [], row)[:3], ("row", row, 0))
            self.assertLessEqual(Fraction(*told), Fraction(*promised(len(spells[0][1]))))

    def test_no_row_keeps_less(self):
        taken = 0
        for spells in many_spells(71, 80):
            told, row, why = least(spells)
            if told != (0, 1):
                taken += 1
                # What is less by one part of the bottom, and by hardly anything.
                for less in (Fraction(*told) - Fraction(1, quotas(spells)[0]), max(Fraction(*told) - TINY, Fraction(0))):
                    bounds = alike(spells, pair(less))
                    self.assertFalse(keeps(spells, bounds, row))
                    self.assertIn(dealt(spells, bounds)[0], ("crowd", "lack"))
                    self.assertIn(placed(spells, bounds, [])[0], ("visits", "turns"))
                    self.assertIn(mended(spells, bounds, [], row)[0], ("visits", "turns"))
        self.assertGreater(taken, 40)

    def test_all_rows_are_as_long_as_the_turns(self):
        for spells in many_spells(72, 30):
            bounds = alike(spells, (1, 1))
            turns = turns_of(spells)
            found = [least(spells)[1], dealt(spells, bounds)[1], placed(spells, bounds, [])[1],
                     mended(spells, bounds, [], [0] * turns)[1]]
            self.assertEqual([len(row) for row in found], [turns] * 4)
            for row in found:
                self.assertTrue(keeps(spells, bounds, row))

    def test_a_round_is_placed_and_mended_to_its_end(self):
        for weights in ([1, 2], [3, 1, 2], [5, 5, 1, 1], [1] * 8, [7, 0, 3], [12, 7, 1]):
            turns, told, row, why = round_of(weights)
            spells, bounds = [(2 * turns, weights)], [(told, told)] * len(weights)
            self.assertTrue(keeps(spells, bounds, row * 2))
            rules = [("fixed", turn, clan) for turn, clan in enumerate(row * 2, start=1)]
            assert_same(self, placed(spells, bounds, rules), ("row", row * 2))
            assert_same(self, mended(spells, bounds, rules, [0] * 2 * turns)[1], row * 2)

    def test_a_mended_row_needs_no_mending(self):
        taken = 0
        for spells, bounds, rules, row in ruled(73, 16, 60):
            told = mended(spells, pairs(bounds), rules, row)
            if told[0] == "row":
                taken += 1
                self.assertTrue(keeps(spells, pairs(bounds), told[1]))
                assert_same(self, mended(spells, pairs(bounds), rules, told[1])[:3], ("row", told[1], 0))
        self.assertGreater(taken, 40)

    def test_a_desk_tells_the_same_of_the_same(self):
        chance = random.Random(74)
        names = "abcdefgh"
        for again in range(30):
            clans = chance.randrange(1, 9)
            spells = [(chance.randrange(1, 8), [number_of(chance, chance.choice((1, 12))) for clan in range(clans)])
                      for place in range(chance.randrange(1, 9))]
            desk = Desk()
            for clan in range(clans):
                desk.say(f"clan {names[clan]} 0")
            for turns, weights in spells:
                for clan, weight in enumerate(weights):
                    desk.say(f"weight {names[clan]} {weight}")
                desk.say(f"turns {turns}")
            told, row, why = least(spells)
            written = str(told[0]) if told[1] == 1 else f"{told[0]}/{told[1]}"
            assert_same(self, desk.say("least"), f"{written} {' '.join(names[clan] for clan in row)}")
