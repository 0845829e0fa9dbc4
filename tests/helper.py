"""What the tests of several modules need."""

import copy
import itertools
import math
import operator
import random
from fractions import Fraction

from chairclans import errors

REFUSALS = (
    errors.NoRatio, errors.NoText, errors.NoSpell, errors.NoRow, errors.NoBounds, errors.NoDistance, errors.NoClan,
    errors.TooLong, errors.NoRule, errors.NoLine, errors.NoNumber, errors.NoName, errors.Known, errors.TooMany,
)
MOST = 10 ** 30 - 1
PLAIN = [(2, [1, 2]), (1, [1, 0]), (3, [5, 5])]
TINY = Fraction(1, 10 ** 40)


def assert_refused(test, wanted, call, *handed):
    """The call is refused with the wanted class, and with none of the others; what was handed in is as it was."""
    before = copy.deepcopy(handed)
    with test.assertRaises(ValueError) as caught:
        call(*handed)
    test.assertIsInstance(caught.exception, errors.ClanError)
    test.assertEqual([kind for kind in REFUSALS if isinstance(caught.exception, kind)], [wanted])
    assert_same(test, handed, before)


def assert_whole(test, value):
    test.assertIs(type(value), int)


def assert_same(test, told, wanted):
    """For long answers: unittest's own comparison takes very long to show where two of them differ."""
    test.assertTrue(told == wanted, f"told {told}, wanted {wanted}")


def assert_ratio(test, told, wanted):
    test.assertIs(type(told), tuple)
    for number in told:
        assert_whole(test, number)
    assert_same(test, told, pair(wanted))


def assert_row(test, told):
    test.assertIs(type(told), list)
    for clan in told:
        assert_whole(test, clan)


def assert_unchanged(test, call, *handed):
    """What is handed in stays as it was, and a change of lists that were told changes no later answer."""
    handed = copy.deepcopy(handed)
    before = copy.deepcopy(handed)
    told = call(*handed)
    kept = copy.deepcopy(told)
    assert_same(test, handed, before)
    spoil(told)
    assert_same(test, handed, before)
    again = call(*handed)
    assert_same(test, again, kept)
    for thing in lists_in(handed):
        thing.append(7)
    assert_same(test, again, kept)


def lists_in(told):
    if not isinstance(told, (list, tuple)):
        return []
    found = [told] if isinstance(told, list) else []
    for part in told:
        found += lists_in(part)
    return found


def spoil(told):
    for thing in lists_in(told):
        thing.append(99)
        thing[0] = -7


def pair(fraction):
    return (fraction.numerator, fraction.denominator)


def pairs(bounds):
    return [(pair(below), pair(above)) for below, above in bounds]


def number_of(chance, figures):
    """A whole number above 0 with just so many figures."""
    return chance.randrange(10 ** (figures - 1), 10 ** figures)


def with_spell(place, spell):
    """The plain spells with another one in the place of the first, the middle or the last."""
    spells = copy.deepcopy(PLAIN)
    spells[place] = spell
    return spells


def everywhere(spell):
    return [with_spell(place, spell) for place in range(len(PLAIN))] + [[copy.deepcopy(spell)]]


def weights_everywhere(weights):
    """The weights in one of the spells, and in all of them."""
    return everywhere((2, weights)) + [[(turns, list(weights)) for turns, others in PLAIN]]


def wrong_spells():
    wrong = [[], [(1, [1, 2])] * 9, [(7, [1])] * 9]
    for turns in (0, -1, -60, -10 ** 299, 61, 62, 1000):
        wrong += everywhere((turns, [1, 2]))
    for place in range(8):
        wrong.append([(7 if other == place else 8, [1, 2]) for other in range(8)])
        wrong.append([(54 if other == place else 1, [1, 2]) for other in range(8)])
    # A number of turns below 1 is refused even where all turns come to a number that is none too many.
    wrong += [[(-1, [1]), (5, [1])], [(5, [1]), (0, [1]), (5, [1])], [(70, [1]), (-20, [1])]]
    wrong += weights_everywhere([]) + weights_everywhere([1] * 9) + weights_everywhere([1] + [0] * 8)
    for weights in ([0, 0], [-1, 2], [2, -1], [1, -1], [-1, -1], [0, -1], [10 ** 30, 1], [1, 10 ** 30],
                    [0, 10 ** 30], [-10 ** 30, 1], [10 ** 299, 0], [-MOST, MOST]):
        wrong += weights_everywhere(weights)
    for weights in ([1], [1, 2, 3], [1, 2, 0]):
        wrong += [with_spell(place, (2, weights)) for place in range(len(PLAIN))]
    wrong += [[(1, [0])], [(1, [0] * 8)], [(1, [1, 1]), (1, [1])], [(1, [1]), (1, [1, 1])]]
    return wrong


def wrong_bounds(clans):
    """Bounds one too few, one too many, none; one of them below 0 or above 10, by little and by much."""
    right = [((1, 1), (1, 2))] * clans
    wrong = [right[1:], right + right[:1], right + [((0, 1), (0, 1))] * 8, []]
    near = 10 ** 299
    for bound in ((-1, 1), (-1, 2), (-1, near), (-near, 1), (11, 1), (21, 2), (near + 1, near // 10),
                  (10 ** 21 + 1, 10 ** 20), (near, 1)):
        for clan in range(clans):
            for pressed in ((bound, (1, 1)), ((1, 1), bound), (bound, bound)):
                wrong.append(right[:clan] + [pressed] + right[clan + 1:])
    return wrong


def wrong_rows(turns, clans):
    """Rows with a turn too few, a turn too many, a clan below 0, a clan beyond the last."""
    right = [turn % clans for turn in range(turns)]
    wrong = [right[1:], right[:-1], right + [0], [0] + right, right * 2, right + [clans], []]
    for clan in (-1, -2, -clans, -10 ** 299, clans, clans + 1, 8, 10 ** 299):
        for place in {0, turns // 2, turns - 1}:
            if not 0 <= clan < clans:
                wrong.append(right[:place] + [clan] + right[place + 1:])
    return wrong


def drawn_weights(chance, clans):
    """Weights of which some may be 0, small, or of six or of thirty figures."""
    figures = chance.choice((1, 1, 2, 6, 30))
    weights = [chance.choice((0, 1, 1, 1)) * number_of(chance, figures) for clan in range(clans)]
    weights[chance.randrange(clans)] = number_of(chance, figures)
    return weights


def drawn_spells(chance, clans, count, turns):
    """So many spells (at most as many as turns), with so many turns in all."""
    cuts = sorted(chance.sample(range(1, turns), count - 1))
    return [(late - early, drawn_weights(chance, clans)) for early, late in zip([0] + cuts, cuts + [turns])]


def small_spells(chance, clans, turns):
    """Spells whose rows can all be walked, with changing weights."""
    count = chance.randrange(1, min(turns, 4) + 1)
    cuts = sorted(chance.sample(range(1, turns), count - 1))
    spells = []
    for early, late in zip([0] + cuts, cuts + [turns]):
        weights = [chance.randrange(5) for clan in range(clans)]
        weights[chance.randrange(clans)] += 1
        spells.append((late - early, weights))
    return spells


def all_rows(spells):
    turns = sum(spell[0] for spell in spells)
    return [list(row) for row in itertools.product(range(len(spells[0][1])), repeat=turns)]


def drawn_row(chance, spells):
    """A row that is now near the shares, now anything."""
    clans = range(len(spells[0][1]))
    row, had = [], [0] * len(clans)
    slack = chance.choice((0, 1, 3, 100))
    for quotas in quota_rows(spells)[1:]:
        behind = [quotas[clan] - had[clan] + chance.randrange(slack + 1) for clan in clans]
        row.append(behind.index(max(behind)))
        had[row[-1]] += 1
    return row


def shares_by_turn(spells):
    return [[Fraction(weight, sum(weights)) for weight in weights]
            for turns, weights in spells for turn in range(turns)]


def quota_rows(spells):
    """The quotas of the turns from 0 on, added up turn by turn."""
    rows = [[Fraction(0)] * len(spells[0][1])]
    for shares in shares_by_turn(spells):
        rows.append([quota + share for quota, share in zip(rows[-1], shares)])
    return rows


def leads_of(spells, row):
    """For each turn how much each clan has had beyond its quota, counted anew at each turn."""
    rows = quota_rows(spells)
    return [[row[:turn].count(clan) - quota for clan, quota in enumerate(rows[turn])] for turn in range(1, len(rows))]


def wanted_distance(spells, row):
    return max(abs(lead) for leads in leads_of(spells, row) for lead in leads)


def is_kept(spells, bounds, row):
    return all(-below <= lead <= above
               for leads in leads_of(spells, row) for lead, (below, above) in zip(leads, bounds))


def just_kept(spells, row):
    """The least bounds that the row keeps."""
    by_clan = list(zip(*leads_of(spells, row)))
    return [(max(0, -min(leads)), max(0, max(leads))) for leads in by_clan]


def wanted_windows(spells, bounds, within=operator.le):
    """The windows by a look at every turn for each visit; within is "at most" or "less than"."""
    rows = quota_rows(spells)
    turns = range(1, len(rows))
    found = []
    for clan, (below, above) in enumerate(bounds):
        # All are taken so many times that they become whole, as fractions are slow to compare.
        times = math.lcm(below.denominator, above.denominator, *[row[clan].denominator for row in rows])
        reach = [int((row[clan] + above) * times) for row in rows]
        pull = [int((row[clan] - below) * times) for row in rows]
        for j in range(1, len(rows) + 12):
            opens = min([turn for turn in turns if within(j * times, reach[turn])], default=len(rows))
            last = max(turn for turn in turns if within(pull[turn - 1], (j - 1) * times))
            if within(pull[-1], (j - 1) * times):
                last = None
            if opens < len(rows) or last is not None:
                found.append((clan, j, opens, last))
    return found


def wanted_less(spells, least):
    return wanted_windows(spells, [(least, least)] * len(spells[0][1]), operator.lt)


def lies_in(row, windows):
    """Whether each clan's turns, in their order, lie in its windows, and each due visit comes."""
    spans = {(clan, j): (opens, last) for clan, j, opens, last in windows}
    for turn, clan in enumerate(row, start=1):
        span = spans.pop((clan, row[:turn].count(clan)), None)
        if span is None or turn < span[0] or (span[1] is not None and turn > span[1]):
            return False
    return all(last is None for opens, last in spans.values())


def wanted_deal(turns, windows):
    """The dealing word by word: its row, or None where it doesn't come to the end."""
    undealt, row = list(windows), []
    for turn in range(1, turns + 1):
        opened = [visit for visit in undealt if visit[2] <= turn]
        if not opened or any(last is not None and last < turn for clan, j, opens, last in undealt):
            return None
        visit = min(opened, key=lambda one: (one[3] is None, one[3] or 0, one[0], one[1]))
        undealt.remove(visit)
        row.append(visit[0])
    if any(last is not None for clan, j, opens, last in undealt):
        return None
    return row


def assert_why(test, turns, windows, why):
    """A crowd or a lack that is there."""
    test.assertIs(type(why), tuple)
    for number in why[1:]:
        assert_whole(test, number)
    if why[0] == "crowd":
        name, a, b = why
        test.assertTrue(1 <= a <= turns + 1 and 0 <= b <= turns, why)
        crowd = [visit for visit in windows if visit[3] is not None and visit[2] >= a and visit[3] <= b]
        test.assertGreater(len(crowd), max(0, b - a + 1), why)
    else:
        test.assertEqual(why[0], "lack")
        name, t = why
        test.assertTrue(1 <= t <= turns, why)
        test.assertLess(len([visit for visit in windows if visit[2] <= t]), t, why)


def wrong_weights():
    """Weights that could not be those of a spell."""
    wrong = [[], [1] * 9, [1] + [0] * 8, [0] * 9]
    for clans in range(1, 9):
        wrong.append([0] * clans)
        for place in {0, clans // 2, clans - 1}:
            for weight in (-1, -MOST, 10 ** 30, 10 ** 299, -10 ** 30):
                wrong.append([weight if other == place else 1 for other in range(clans)])
    return wrong


def wrong_rules(turns, clans):
    """A wrong rule by itself, and at the first, a middle and the last place of right ones."""
    right = [("fixed", 1, 0), ("barred", turns, clans - 1), ("fixed", turns, 0), ("barred", 1, clans - 1)]
    far = 10 ** 299
    wrong = [(word, 1, 0) for word in ("", "fix", "bar", "free", "Fixed", "BARRED", "fixed ", " barred", "fixe", "row")]
    for word in ("fixed", "barred"):
        wrong += [(word, turn, 0) for turn in (0, -1, -turns, -far, turns + 1, turns + 2, 61, 100, far)]
        wrong += [(word, turns, clan) for clan in (-1, -clans, -8, -far, clans, clans + 1, 8, 9, far)]
    wrong += [("fix", 0, 0), ("fixed", 0, clans), ("", turns + 1, -1)]
    return [right[:place] + [rule] + right[place:] for rule in wrong for place in (0, 2, 4)] + [[one] for one in wrong]


def is_let(rules, turn, clan):
    """Whether no rule forbids the turn to the clan."""
    return all((clan == own) == (word == "fixed") for word, other, own in rules if other == turn)


def keeps_rules(rules, row):
    return all((row[turn - 1] == clan) == (word == "fixed") for word, turn, clan in rules)


def comes_at(window, rules, turn):
    clan, j, opens, last = window
    return opens <= turn and (last is None or turn <= last) and is_let(rules, turn, clan)


def drawn_bounds(chance, clans):
    """Bounds that are now narrow, now wide, 0 and 10 among them."""
    kind = chance.choice(("nought", "narrow", "narrow", "middle", "middle", "wide", "mixed"))
    most = {"nought": 0, "narrow": 12, "middle": 24, "wide": 120, "mixed": 18}[kind]
    bounds = [(Fraction(chance.randrange(most + 1), 12), Fraction(chance.randrange(most + 1), 12))
              for clan in range(clans)]
    if kind == "mixed":
        ends = (Fraction(0), Fraction(10))
        bounds[chance.randrange(clans)] = (chance.choice(ends), chance.choice(ends))
    return bounds


def drawn_rules(chance, turns, clans, count):
    return [(chance.choice(("fixed", "barred", "barred")), chance.randrange(1, turns + 1), chance.randrange(clans))
            for again in range(count)]


def rules_round(chance, row, clans):
    """Rules that the row keeps, some of them twice, in any order."""
    rules = []
    for turn, clan in enumerate(row, start=1):
        if chance.random() < 0.2:
            rules.append(("fixed", turn, clan))
        rules += [("barred", turn, other) for other in range(clans) if other != clan and chance.random() < 0.3]
    rules += rules[:2]
    chance.shuffle(rules)
    return rules


def ruled(seed, most_turns, times, most_clans=8):
    """Spells, bounds and rules that a drawn row keeps, such with some rules more, and such of any kind."""
    chance = random.Random(seed)
    found = []
    for again in range(times):
        turns, clans = chance.randrange(1, most_turns + 1), chance.randrange(1, most_clans + 1)
        spells = drawn_spells(chance, clans, min(turns, chance.randrange(1, 4)), turns)
        row = drawn_row(chance, spells)
        bounds = just_kept(spells, row)
        if max(max(one) for one in bounds) <= 10:
            rules = rules_round(chance, row, clans)
            found.append((spells, bounds, rules, row))
            against = rules + drawn_rules(chance, turns, clans, chance.randrange(1, 4))
            found.append((spells, bounds, against, drawn_row(chance, spells)))
        drawn = [chance.randrange(clans) for turn in range(turns)]
        rules = drawn_rules(chance, turns, clans, chance.choice((0, 1, 2, turns // 2, turns)))
        found.append((spells, drawn_bounds(chance, clans), rules, drawn))
    return found


def few_ruled(seed, times):
    """Likewise of so few turns and clans that all rows can be walked."""
    chance = random.Random(seed)
    found = []
    for clans, turns in ((1, 2), (1, 4), (2, 1), (2, 3), (2, 5), (2, 7), (3, 2), (3, 4), (4, 3), (5, 3)):
        for again in range(times):
            spells = small_spells(chance, clans, turns)
            bounds = drawn_bounds(chance, clans)
            rules = drawn_rules(chance, turns, clans, chance.choice((0, 1, 1, 2, 3)))
            found.append((spells, bounds, rules, [chance.randrange(clans) for turn in range(turns)]))
    return found


def rows_kept(spells, bounds, rules):
    return [row for row in all_rows(spells) if keeps_rules(rules, row) and is_kept(spells, bounds, row)]


def assert_placed_row(test, spells, bounds, rules, row):
    assert_row(test, row)
    test.assertEqual(len(row), sum(spell[0] for spell in spells))
    test.assertTrue(is_kept(spells, bounds, row))
    test.assertTrue(keeps_rules(rules, row))


def assert_stuck(test, spells, bounds, rules, told):
    """Due visits that have together too few turns, or turns that have together too few visits."""
    test.assertIs(type(told), tuple)
    word, some = told
    test.assertIs(type(some), list)
    windows = wanted_windows(spells, bounds)
    turns = range(1, sum(spell[0] for spell in spells) + 1)
    test.assertEqual(some, sorted(set(some)))
    if word == "visits":
        for visit in some:
            test.assertIs(type(visit), tuple)
            for number in visit:
                assert_whole(test, number)
        found = [window for window in windows if window[:2] in some and window[3] is not None]
        test.assertEqual([window[:2] for window in found], some)
        places = [turn for turn in turns if any(comes_at(window, rules, turn) for window in found)]
    else:
        test.assertEqual(word, "turns")
        for turn in some:
            assert_whole(test, turn)
            test.assertIn(turn, turns)
        places = [window for window in windows if any(comes_at(window, rules, turn) for turn in some)]
    test.assertLess(len(places), len(some))
