import copy
import itertools
import math
import random
import unittest
from fractions import Fraction

from chairclans.errors import NoSpell
from chairclans.spells import quotas, turns_of
from tests.helper import (
    MOST, PLAIN, assert_refused, assert_same, assert_whole, everywhere, number_of, quota_rows, shares_by_turn,
    wrong_spells,
)


def right_spells():
    chance = random.Random(7)
    right = [
        PLAIN, [(1, [1])], [(60, [7])], [(60, [1, 2, 3])], [(59, [1]), (1, [2])], [(1, [MOST])],
        [(1, [0, 0, 1])] * 8, [(60, [MOST] * 8)], [(1, [1, 0]), (1, [0, 1])], [(3, [2, 4, 6]), (2, [0, 7, 7])],
        [(53, [MOST, 1]), (1, [1, MOST])] + [(1, [0, MOST - 1])] * 6,
        [(10 if place < 4 else 5, [number_of(chance, 30) for clan in range(8)]) for place in range(8)],
    ]
    for again in range(60):
        clans, count = chance.randrange(1, 9), chance.randrange(1, 9)
        top = chance.choice((2, 5, 12, 100, MOST))
        spells = []
        for place in range(count):
            weights = [chance.choice((0, chance.randrange(top + 1))) for clan in range(clans)]
            weights[chance.randrange(clans)] = chance.randrange(1, top + 1)
            spells.append((chance.randrange(1, 8), weights))
        right.append(spells)
    return right


def wanted_quotas(spells):
    rows = quota_rows(spells)
    bottom = math.lcm(*[quota.denominator for row in rows for quota in row])
    return (bottom, [[int(quota * bottom) for quota in row] for row in rows])


class Refused(unittest.TestCase):
    def test_wrong_spells(self):
        for spells in wrong_spells():
            for call in (turns_of, quotas):
                with self.subTest(f"{call.__name__} {spells}"):
                    assert_refused(self, NoSpell, call, spells)

    def test_turns_of_many_figures(self):
        for call in (turns_of, quotas):
            # Sixty-one goes first and ends the test where it is taken: so many turns would be walked without end.
            for turns in (61, 10 ** 30, 10 ** 299):
                for spells in everywhere((turns, [1, 2])):
                    assert_refused(self, NoSpell, call, spells)

    def test_what_is_refused_stays_as_it_was(self):
        for spells in wrong_spells():
            before = copy.deepcopy(spells)
            for call in (turns_of, quotas):
                assert_refused(self, NoSpell, call, spells)
                self.assertEqual(spells, before)


class Turns(unittest.TestCase):
    def test_by_name(self):
        self.assertEqual(turns_of(spells=PLAIN), 6)

    def test_all_turns(self):
        for spells in right_spells():
            assert_whole(self, turns_of(spells))
            self.assertEqual(turns_of(spells), len(shares_by_turn(spells)))

    def test_the_most_is_taken(self):
        self.assertEqual(turns_of([(60, [MOST] * 8)]), 60)
        self.assertEqual(turns_of([(8, [MOST] * 8)] * 7 + [(4, [MOST] * 8)]), 60)


class Quotas(unittest.TestCase):
    def test_by_name(self):
        self.assertEqual(quotas(spells=[(1, [1])]), (1, [[0], [1]]))

    def test_plain_ones(self):
        self.assertEqual(quotas([(2, [1, 2]), (1, [1, 0])]), (3, [[0, 0], [1, 2], [2, 4], [5, 4]]))
        self.assertEqual(quotas([(2, [2, 2])]), (2, [[0, 0], [1, 1], [2, 2]]))
        self.assertEqual(quotas([(1, [1, 1]), (1, [1, 2])]), (6, [[0, 0], [3, 3], [5, 7]]))
        self.assertEqual(quotas([(1, [1, 3]), (1, [5, 1])]), (12, [[0, 0], [3, 9], [13, 11]]))
        self.assertEqual(quotas([(2, [0, 9])]), (1, [[0, 0], [0, 1], [0, 2]]))

    def test_the_kinds(self):
        for spells in right_spells():
            told = quotas(spells)
            self.assertIs(type(told), tuple)
            self.assertEqual(len(told), 2)
            assert_whole(self, told[0])
            self.assertIs(type(told[1]), list)
            for row in told[1]:
                self.assertIs(type(row), list)
                for quota in row:
                    assert_whole(self, quota)

    def test_all_quotas(self):
        for spells in right_spells():
            with self.subTest(str(spells)):
                assert_same(self, quotas(spells), wanted_quotas(spells))

    def test_turn_nought_is_all_nought(self):
        for spells in right_spells():
            assert_same(self, quotas(spells)[1][0], [0] * len(spells[0][1]))

    def test_each_turn_adds_the_shares(self):
        for spells in right_spells():
            bottom, rows = quotas(spells)
            assert_same(self, len(rows), turns_of(spells) + 1)
            for turn, shares in enumerate(shares_by_turn(spells), start=1):
                added = [Fraction(late - early, bottom) for early, late in zip(rows[turn - 1], rows[turn])]
                assert_same(self, added, shares)

    def test_the_quotas_of_a_turn_come_to_its_number(self):
        for spells in right_spells():
            bottom, rows = quotas(spells)
            assert_same(self, [sum(row) for row in rows], [turn * bottom for turn in range(len(rows))])

    def test_no_lesser_bottom_makes_all_whole(self):
        for weights in itertools.product(range(7), repeat=2):
            for others in ([1, 1], [2, 4], [3, 0]):
                if sum(weights) > 0:
                    spells = [(2, list(weights)), (1, others)]
                    shares = [share for turn in shares_by_turn(spells) for share in turn]
                    bottom = quotas(spells)[0]
                    whole = [all((share * n).denominator == 1 for share in shares) for n in range(1, bottom + 1)]
                    assert_same(self, whole, [False] * (bottom - 1) + [True])

    def test_a_spell_parted_in_two(self):
        for spells in right_spells():
            for place, (turns, weights) in enumerate(spells):
                if turns > 1 and len(spells) < 8:
                    for first in (1, turns // 2, turns - 1):
                        parts = [(first, weights), (turns - first, weights)]
                        assert_same(self, quotas(spells[:place] + parts + spells[place + 1:]), quotas(spells))

    def test_weights_all_taken_the_same_number_of_times(self):
        for spells in right_spells():
            for place, (turns, weights) in enumerate(spells):
                for times in (2, 3, 60, 10 ** 28):
                    more = [weight * times for weight in weights]
                    if max(more) <= MOST:
                        assert_same(self, quotas(spells[:place] + [(turns, more)] + spells[place + 1:]), quotas(spells))

    def test_the_clans_in_another_order(self):
        chance = random.Random(77)
        for spells in right_spells():
            order = list(range(len(spells[0][1])))
            chance.shuffle(order)
            bottom, rows = quotas(spells)
            other = quotas([(turns, [weights[clan] for clan in order]) for turns, weights in spells])
            assert_same(self, other, (bottom, [[row[clan] for clan in order] for row in rows]))


class TheAskersOwn(unittest.TestCase):
    def test_what_is_handed_in_stays_as_it_was(self):
        for spells in right_spells():
            before = copy.deepcopy(spells)
            turns_of(spells)
            quotas(spells)
            assert_same(self, spells, before)

    def test_a_change_of_what_was_told_changes_nothing_else(self):
        for spells in right_spells():
            before = copy.deepcopy(spells)
            bottom, rows = quotas(spells)
            kept = copy.deepcopy(rows)
            for turn in range(len(rows)):
                rows[turn][0] = -7
                rows[turn].append(99)
                assert_same(self, rows[turn + 1:], kept[turn + 1:])
            rows.clear()
            assert_same(self, quotas(spells), (bottom, kept))
            assert_same(self, spells, before)

    def test_a_later_change_of_what_was_handed_in_changes_nothing_told(self):
        spells = copy.deepcopy(PLAIN)
        told = quotas(spells)
        kept = copy.deepcopy(told)
        spells[0][1][0] = 50
        spells.append((1, [9, 9]))
        assert_same(self, told, kept)
        assert_same(self, quotas(spells), wanted_quotas(spells))
