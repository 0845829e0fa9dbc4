import random
import unittest
from fractions import Fraction
from math import gcd

from chairclans.errors import NoSpell, TooLong
from chairclans.least import least
from chairclans.rounds import round_of
from tests.helper import (
    MOST, assert_ratio, assert_refused, assert_row, assert_same, assert_unchanged, assert_why, wanted_deal,
    wanted_distance, wanted_less, wanted_windows, wrong_weights,
)

TIMES = (1, 3, 10 ** 9)


def with_sum(chance, clans, turns):
    """Weights from 0 on that come to so many turns, and have no divisor in common."""
    weights = [0] * clans
    while gcd(*weights) != 1:
        weights = [0] * clans
        for turn in range(turns):
            weights[chance.randrange(clans)] += 1
    return weights


def many_weights(seed):
    chance = random.Random(seed)
    found = [[1], [1, 1], [1, 0], [0, 1], [0, 0, 1], [1] * 8, [0] * 7 + [1], [59, 1], [1, 59], [0, 7, 0, 53], [30, 29, 1],
             [20, 0, 20, 19], [53] + [1] * 7, [9, 8, 8, 7, 7, 7, 7, 7], [0, 2, 3]]
    for clans in range(2, 9):
        for turns in (2, 5, 11, 20, 37, 60):
            found.append(with_sum(chance, clans, turns))
    return found


class RoundOf(unittest.TestCase):
    def test_by_name(self):
        self.assertEqual(round_of(weights=[4]), (1, (0, 1), [0], None))

    def test_plain_ones(self):
        self.assertEqual(round_of([1, 2])[:3], (3, (1, 3), [1, 0, 1]))
        self.assertEqual(round_of([10, 20])[:3], (3, (1, 3), [1, 0, 1]))
        self.assertEqual(round_of([1, 1])[:3], (2, (1, 2), [0, 1]))
        self.assertEqual(round_of([6, 4, 0])[:2], (5, (2, 5)))

    def test_one_clan(self):
        for weight in (1, 2, 60, 61, 10 ** 9, MOST):
            self.assertEqual(round_of([weight]), (1, (0, 1), [0], None))

    def test_all_the_weight_on_one_clan(self):
        for clans in range(2, 9):
            for clan in range(clans):
                for weight in (1, 61, MOST):
                    weights = [weight if other == clan else 0 for other in range(clans)]
                    self.assertEqual(round_of(weights), (1, (0, 1), [clan], None))

    def test_the_turns(self):
        for weights in many_weights(20):
            for times in TIMES:
                turns = round_of([weight * times for weight in weights])[0]
                self.assertIs(type(turns), int)
                self.assertEqual(turns, sum(weights) // gcd(*weights))

    def test_the_kinds(self):
        for weights in many_weights(201):
            told = round_of(weights)
            self.assertIs(type(told), tuple)
            self.assertEqual(len(told), 4)
            assert_ratio(self, told[1], Fraction(*told[1]))
            assert_row(self, told[2])

    def test_it_is_the_least_of_one_spell(self):
        for weights in many_weights(202):
            for times in TIMES:
                more = [weight * times for weight in weights]
                told = round_of(more)
                assert_same(self, told[1:], least([(told[0], more)]))
                assert_same(self, told, round_of(weights))

    def test_distance_row_and_why_by_themselves(self):
        for weights in many_weights(203):
            turns, distance, row, why = round_of(weights)
            spells, wanted = [(turns, weights)], Fraction(*distance)
            self.assertEqual(wanted_distance(spells, row), wanted)
            assert_same(self, row, wanted_deal(turns, wanted_windows(spells, [(wanted, wanted)] * len(weights))))
            if wanted == 0:
                self.assertIsNone(why)
            else:
                assert_why(self, turns, wanted_less(spells, wanted), why)

    def test_each_clan_has_its_share_at_the_end(self):
        for weights in many_weights(204):
            for times in TIMES:
                row = round_of([weight * times for weight in weights])[2]
                self.assertEqual([row.count(clan) for clan in range(len(weights))],
                                 [weight // gcd(*weights) for weight in weights])

    def test_the_row_goes_on_for_ever(self):
        taken = 0
        for weights in many_weights(205):
            turns, distance, row, why = round_of(weights)
            if 3 * turns <= 60:
                taken += 1
                self.assertEqual(wanted_distance([(3 * turns, weights)], row * 3), Fraction(*distance))
        self.assertGreater(taken, 20)

    def test_sixty_turns(self):
        for weights in ([59, 1], [1, 0, 59], [31, 29], [53] + [1] * 7, [59 * 10 ** 28, 10 ** 28], [0, 7, 0, 53]):
            self.assertEqual(round_of(weights)[0], 60)

    def test_too_long(self):
        for weights in ([60, 1], [1, 60], [30, 31], [61, 0, 1], [54] + [1] * 7, [0, 60, 1], [600, 10], [3 * 10 ** 9, 1],
                        [MOST, 1], [MOST, MOST - 1], [MOST] * 7 + [1], [60 * 10 ** 9, 10 ** 9], [2, 121], [1, 1000]):
            assert_refused(self, TooLong, round_of, weights)

    def test_wrong_weights(self):
        # Many of these would come round in too many turns as well.
        for weights in wrong_weights() + [[60, 1] + [0] * 7, [1] * 61, [-1, 62], [10 ** 30, 1], [100, -39]]:
            assert_refused(self, NoSpell, round_of, weights)

    def test_what_is_handed_in_stays_as_it_was(self):
        for weights in many_weights(206):
            assert_unchanged(self, round_of, weights)
