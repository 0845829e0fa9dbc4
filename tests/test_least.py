import random
import unittest
from fractions import Fraction

from chairclans.dealing import dealt
from chairclans.errors import NoClan, NoSpell
from chairclans.least import least, promised
from chairclans.rows import distance
from tests.helper import (
    MOST, all_rows, assert_ratio, assert_refused, assert_row, assert_same, assert_unchanged, assert_why, drawn_spells,
    drawn_weights, number_of, pair, small_spells, wanted_deal, wanted_distance, wanted_less, wanted_windows,
    wrong_spells,
)

# Weights that change so that no row does better than what is promised.
AT_THE_PROMISE = (
    [(1, [1, 1])], [(60, [1, 1])],
    [(2, [1, 1, 2]), (1, [0, 0, 4]), (1, [3, 0, 1]), (1, [0, 2, 2]), (2, [0, 4, 0]), (1, [1, 3, 0]), (2, [0, 2, 2])],
    [(1, [1, 3, 1, 1]), (1, [0, 6, 0, 0]), (1, [2, 0, 1, 3]), (2, [2, 0, 3, 1]), (2, [0, 0, 6, 0]), (1, [1, 3, 2, 0])],
)


def turns_in(spells):
    return sum(spell[0] for spell in spells)


def many_spells(seed):
    chance = random.Random(seed)
    found = [[(1, [1])], [(60, [5])], [(60, [1, 0])], [(3, [0, 1]), (57, [1, 0])], [(60, [1] * 8)], [(60, [MOST] * 8)]]
    for clans in range(1, 9):
        for turns in (1, 2, 6, 13, 30, 60):
            for count in {1, min(2, turns), min(8, turns)}:
                found.append(drawn_spells(chance, clans, count, turns))
    return found


def lively_spells(seed, times):
    """Spells of many clans and turns whose weights change as often as they can."""
    chance = random.Random(seed)
    found = []
    for again in range(times):
        clans = chance.choice((2, 3, 5, 8, 8, 8))
        bottom = chance.choice((2 * clans - 2, 2 * clans - 2, 12, 60))
        spells = []
        for place in range(8):
            weights = [0] * clans
            for part in range(bottom):
                weights[chance.randrange(chance.randrange(clans) + 1)] += 1
            chance.shuffle(weights)
            spells.append((chance.choice((1, 2, 7)), weights))
        found.append(spells)
    for again in range(times):
        found.append([(7, [number_of(chance, 30) for clan in range(8)]) for place in range(7)] + [
            (11, [number_of(chance, chance.randrange(1, 31)) for clan in range(8)])])
    return found


def all_spells(seed):
    return many_spells(seed) + lively_spells(seed, 15) + list(AT_THE_PROMISE)


class Least(unittest.TestCase):
    def test_by_name(self):
        self.assertEqual(least(spells=[(2, [3])]), ((0, 1), [0, 0], None))

    def test_plain_ones(self):
        for spells, wanted, row in (
                ([(1, [1, 1])], (1, 2), [0]), ([(2, [1, 1])], (1, 2), [0, 1]), ([(3, [1, 2])], (1, 3), [1, 0, 1]),
                ([(1, [1, 1, 1])], (2, 3), [0]), ([(3, [1, 0])], (0, 1), [0, 0, 0]),
                ([(1, [1, 0]), (2, [0, 1])], (0, 1), [0, 1, 1]), ([(1, [MOST, 1])], (1, MOST + 1), [0])):
            with self.subTest(str(spells)):
                told = least(spells)
                self.assertEqual(told[:2], (wanted, row))

    def test_one_clan(self):
        for spells in ([(1, [1])], [(60, [MOST])], [(2, [5]), (3, [1])]):
            self.assertEqual(least(spells), ((0, 1), [0] * turns_in(spells), None))

    def test_the_kinds(self):
        for spells in all_spells(17):
            told = least(spells)
            self.assertIs(type(told), tuple)
            self.assertEqual(len(told), 3)
            assert_ratio(self, told[0], Fraction(*told[0]))
            assert_row(self, told[1])
            self.assertEqual(len(told[1]), turns_in(spells))

    def test_the_rows_distance_is_the_ratio(self):
        for spells in all_spells(171):
            told, row, why = least(spells)
            assert_same(self, told, pair(wanted_distance(spells, row)))
            assert_same(self, told, distance(spells, row))

    def test_the_row_is_the_one_dealt_by_the_ratio(self):
        for spells in all_spells(172):
            told, row, why = least(spells)
            bounds = [(Fraction(*told), Fraction(*told))] * len(spells[0][1])
            assert_same(self, row, wanted_deal(turns_in(spells), wanted_windows(spells, bounds)))
            assert_same(self, ("row", row), dealt(spells, [(told, told)] * len(spells[0][1])))

    def test_why_none_keeps_a_lesser_one(self):
        noughts = 0
        for spells in all_spells(173):
            told, row, why = least(spells)
            if told == (0, 1):
                noughts += 1
                self.assertIsNone(why)
            else:
                assert_why(self, turns_in(spells), wanted_less(spells, Fraction(*told)), why)
        self.assertGreater(noughts, 5)

    def test_the_least_of_all_rows(self):
        chance = random.Random(18)
        for clans, turns in ((1, 3), (2, 1), (2, 2), (2, 5), (2, 7), (3, 1), (3, 2), (3, 4), (4, 3), (5, 3)):
            for again in range(10):
                spells = small_spells(chance, clans, turns)
                wanted = min(wanted_distance(spells, row) for row in all_rows(spells))
                assert_ratio(self, least(spells)[0], wanted)

    def test_the_least_of_all_rows_with_weights_of_many_figures(self):
        chance = random.Random(181)
        for clans, turns in ((2, 5), (3, 4)):
            for again in range(6):
                spells = drawn_spells(chance, clans, 2, turns)
                wanted = min(wanted_distance(spells, row) for row in all_rows(spells))
                assert_ratio(self, least(spells)[0], wanted)

    def test_more_turns_are_not_less(self):
        chance = random.Random(182)
        for spells in many_spells(183):
            room = 60 - turns_in(spells)
            if room > 0:
                told = Fraction(*least(spells)[0])
                for more in {1, (room + 1) // 2, room}:
                    longer = spells[:-1] + [(spells[-1][0] + more, spells[-1][1])]
                    self.assertGreaterEqual(Fraction(*least(longer)[0]), told)
                    if len(spells) < 8:
                        added = spells + [(more, drawn_weights(chance, len(spells[0][1])))]
                        self.assertGreaterEqual(Fraction(*least(added)[0]), told)

    def test_at_most_the_promised_one(self):
        for spells in many_spells(184) + lively_spells(185, 60):
            told = least(spells)[0]
            self.assertLessEqual(Fraction(*told), Fraction(*promised(len(spells[0][1]))))

    def test_just_the_promised_one(self):
        for spells in AT_THE_PROMISE:
            self.assertEqual(least(spells)[0], promised(len(spells[0][1])))

    def test_weights_taken_more_times_change_nothing(self):
        for spells in lively_spells(186, 10)[:10]:
            more = [(turns, [weight * 10 ** 28 for weight in weights]) for turns, weights in spells]
            assert_same(self, least(more), least(spells))

    def test_wrong_spells(self):
        for spells in wrong_spells():
            assert_refused(self, NoSpell, least, spells)

    def test_what_is_handed_in_stays_as_it_was(self):
        for spells in all_spells(187):
            assert_unchanged(self, least, spells)


class Promised(unittest.TestCase):
    def test_by_name(self):
        self.assertEqual(promised(clans=1), (0, 1))

    def test_each(self):
        wanted = [(0, 1), (1, 2), (3, 4), (5, 6), (7, 8), (9, 10), (11, 12), (13, 14)]
        self.assertEqual([promised(clans) for clans in range(1, 9)], wanted)

    def test_other_numbers_are_refused(self):
        for clans in (0, 9, 10, -1, -2, -8, 10 ** 299, -10 ** 299):
            assert_refused(self, NoClan, promised, clans)
