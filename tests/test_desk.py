import random
import re
import unittest

from chairclans import errors
from chairclans.dealing import dealt
from chairclans.desk import Desk
from chairclans.least import least
from chairclans.mending import mended
from chairclans.placing import placed
from chairclans.rounds import round_of
from tests.helper import assert_refused, assert_same

ORDER = (
    errors.NoLine, errors.NoNumber, errors.NoText, errors.NoName, errors.Known, errors.TooMany, errors.NoBounds,
    errors.NoSpell, errors.NoRule, errors.NoRow, errors.TooLong,
)
FORMS = {
    "clan": "E W", "weight": "M W", "merge": "M M", "turns": "W", "bound": "M R R", "fix": "W M", "bar": "W M", "free": "W",
    "clear": "", "show": "", "least": "", "keep": "", "place": "", "mend": "", "round": "",
}
TELLING = ("clan", "weight", "merge", "turns", "bound", "fix", "bar", "free", "row", "clear")
ASKING = ("show", "least", "keep", "place", "mend", "round")
WRONG_NUMBERS = (
    "00", "01", "012", "-1", "+1", "-0", "1000000000000", "9999999999999", "0000000000000", "1a", "a1", "x", "1.", "1,",
    "1/1", "3/2", "1_0", "0x1", "1e3", "one", "-", "~", "1.0", "10" * 30,
)
WRONG_RATIOS = (
    "2/4", "1/1", "0/1", "01", "00", "-0", "1/", "/2", "/", "1//2", "1/02", "1/0", "1/-2", "+1", "1.5", "a", "1a", "--1",
    "1/2/3", "0/5", "1,", "~", "1" * 61, "1/" + "3" * 61, "-", "-1/1", "1_0", "ten",
)
WRONG_NAMES = ("abcdefghi", "a" * 9, "a" * 30, "a1", "1", "Ann", "aNN", "A", "a-b", "a_b", "a.", "ann,", "'a'", "~", "0", "-")
OUT_OF_BOUNDS = ("-1", "-1/2", "-1/1000000000000", "11", "21/2", "101/10", "1" * 60, "-" + "9" * 60)
WRONG_FIRST_WORDS = (
    "clans", "cla", "Clan", "CLAN", "Show", "show,", "show.", "clear,", "turns.", "least;", "rows", "Row", "row,", "rounds",
    "round?", "ok", "none", "a", "1", "-", "~", "fixed", "barred", "help", "mended", "placed", "keeps", "crowd",
)


class Told:
    """What a desk has been told, kept in another way: weights and rows by names, one entry for each turn."""

    def __init__(self):
        self.clans = {}
        self.bounds = {}
        self.told = []
        self.rules = []
        self.row = None

    def turns(self):
        return sum(turns for turns, weights in self.told)

    def spells(self):
        return [(turns, [weights.get(name, 0) for name in self.clans]) for turns, weights in self.told]

    def handed(self):
        """Spells, bounds and rules as the functions take them."""
        names = list(self.clans)
        bounds = [tuple(ratio_of(text) for text in self.bounds[name]) for name in names]
        words = {"fix": "fixed", "bar": "barred"}
        return self.spells(), bounds, [(words[word], turn, names.index(name)) for word, turn, name in self.rules]

    def numbers(self):
        names = list(self.clans)
        return [names.index(name) for name in self.row]

    def names(self, row):
        names = list(self.clans)
        return " ".join(names[clan] for clan in row)

    def show(self):
        parts = [f"{name} {weight} {self.bounds[name][0]} {self.bounds[name][1]}" for name, weight in self.clans.items()]
        parts += [f"turns {turns} {' '.join(str(weight) for weight in weights)}" for turns, weights in self.spells()]
        parts += [f"{word} {turn} {name}" for word, turn, name in self.rules]
        if self.row is not None:
            parts.append("row " + " ".join(self.row))
        return ", ".join(parts) or "none"

    def stuck(self, told):
        names = list(self.clans)
        if told[0] == "turns":
            return "turns " + " ".join(str(turn) for turn in told[1])
        return "visits " + ", ".join(f"{names[clan]} {j}" for clan, j in told[1])

    def asked(self, word):
        spells, bounds, rules = self.handed()
        if word == "least":
            told = least(spells)
            return f"{text_of(told[0])} {self.names(told[1])}"
        if word == "keep":
            told = dealt(spells, bounds)
            return f"row {self.names(told[1])}" if told[0] == "row" else " ".join(str(part) for part in told)
        if word == "place":
            told = placed(spells, bounds, rules)
            return f"row {self.names(told[1])}" if told[0] == "row" else self.stuck(told)
        if word == "mend":
            told = mended(spells, bounds, rules, self.numbers())
            return f"row {told[2]} {self.names(told[1])}" if told[0] == "row" else self.stuck(told)
        turns, distance, row, why = round_of(list(self.clans.values()))
        return f"{turns} {text_of(distance)} {self.names(row)}"

    def tell(self, words):
        """The answer to a line that is right."""
        first, rest = words[0], words[1:]
        if first == "show":
            return self.show()
        if first in ASKING:
            return self.asked(first)
        if first == "clan":
            self.clans[rest[0]], self.bounds[rest[0]] = int(rest[1]), ("1", "1")
        elif first == "weight":
            self.clans[rest[0]] = int(rest[1])
        elif first == "merge":
            self.clans[rest[0]], self.clans[rest[1]] = self.clans[rest[0]] + self.clans[rest[1]], 0
        elif first == "turns":
            self.told, self.row = self.told + [(int(rest[0]), dict(self.clans))], None
        elif first == "bound":
            self.bounds[rest[0]] = (rest[1], rest[2])
        elif first in ("fix", "bar"):
            self.rules.append((first, int(rest[0]), rest[1]))
        elif first == "free":
            self.rules = [rule for rule in self.rules if rule[1] != int(rest[0])]
        elif first == "row":
            self.row = rest
        else:
            self.told, self.rules, self.row = [], [], None
        return "ok"


def ratio_of(text):
    top, stroke, bottom = text.partition("/")
    return (int(top), int(bottom or "1"))


def text_of(ratio):
    return str(ratio[0]) if ratio[1] == 1 else f"{ratio[0]}/{ratio[1]}"


def is_number(word):
    return re.fullmatch(r"0|[1-9][0-9]{0,11}", word) is not None


def is_ratio(word):
    if not re.fullmatch(r"0|-?[1-9][0-9]{0,59}(/([2-9]|[1-9][0-9]{1,59}))?", word):
        return False
    one, other = ratio_of(word)
    while other:
        one, other = other, one % other
    return abs(one) == 1 or "/" not in word


def is_name(word):
    return re.fullmatch(r"[a-z]{1,8}", word) is not None


def due_refusals(told, words):
    """All refusals that could be due, each looked at by itself, as far as the line can be understood."""
    first = words[0] if words else ""
    kinds = ["M"] * max(1, len(words) - 1) if first == "row" else FORMS.get(first, "").split()
    rest = words[1:]
    if first not in TELLING + ASKING or len(kinds) != len(rest):
        return {errors.NoLine}
    due = set()
    if first == "merge" and rest[0] == rest[1]:
        due.add(errors.NoLine)
    for kind, word in zip(kinds, rest):
        if kind == "W" and not is_number(word):
            due.add(errors.NoNumber)
        if kind == "R" and not is_ratio(word):
            due.add(errors.NoText)
        if (kind == "E" and not is_name(word)) or (kind == "M" and word not in told.clans):
            due.add(errors.NoName)
        if kind == "E" and word in told.clans:
            due.add(errors.Known)
        if kind == "R" and is_ratio(word) and not 0 <= ratio_of(word)[0] <= 10 * ratio_of(word)[1]:
            due.add(errors.NoBounds)
    if first == "clan" and len(told.clans) == 8:
        due.add(errors.TooMany)
    if first in ("turns", "round") and sum(told.clans.values()) == 0:
        due.add(errors.NoSpell)
    if first == "turns" and (len(told.told) == 8 or (is_number(rest[0]) and not 1 <= int(rest[0]) <= 60 - told.turns())):
        due.add(errors.NoSpell)
    if first in ("least", "keep", "place", "mend") and not told.told:
        due.add(errors.NoSpell)
    if first in ("fix", "bar", "free") and is_number(rest[0]) and not 1 <= int(rest[0]) <= told.turns():
        due.add(errors.NoRule)
    if (first == "row" and len(rest) != told.turns()) or (first == "mend" and told.row is None):
        due.add(errors.NoRow)
    if first == "round" and errors.NoSpell not in due and rounds_too_long(list(told.clans.values())):
        due.add(errors.TooLong)
    return due


def rounds_too_long(weights):
    return not any(sum(weights) % turns == 0 and all(weight * turns % sum(weights) == 0 for weight in weights)
                   for turns in range(1, 61))


def first_refusal(told, words):
    due = due_refusals(told, words)
    return next((kind for kind in ORDER if kind in due), None)


def spaced(chance, words):
    """The words with blanks between, ahead and behind."""
    parts = [" " * chance.choice((0, 0, 0, 1, 3))]
    for place, word in enumerate(words):
        parts += [" " * chance.choice((1, 1, 1, 2, 5)) if place else "", word]
    return "".join(parts) + " " * chance.choice((0, 0, 0, 1, 4))


def said(*lines):
    """A desk that has been told these lines, each of them right."""
    desk = Desk()
    for line in lines:
        if desk.say(line) != "ok":
            raise AssertionError(line)
    return desk


class Drawn:
    """Lines that are now right, now wrong in one way or in several."""

    NAMES = ("a", "bo", "ann", "turns", "row", "show", "clan", "zebedees", "none", "ok", "free", "x", "least")

    def __init__(self, seed, told, wrong):
        self.chance, self.told, self.wrong = random.Random(seed), told, wrong

    def is_wrong(self):
        return self.chance.random() < self.wrong

    def number(self, most):
        if self.is_wrong():
            return self.chance.choice(WRONG_NUMBERS)
        return str(self.chance.choice((0, 1, 1, 2, 3, most, self.chance.randrange(most + 1))))

    def ratio(self):
        if self.is_wrong():
            return self.chance.choice(WRONG_RATIOS + OUT_OF_BOUNDS)
        return self.chance.choice(("0", "10", "1", "1", "2", "1/2", "1/2", "3/4", "5/6", "7/2", "99/10", "1/1000000007"))

    def name(self):
        if self.is_wrong() or not self.told.clans:
            return self.chance.choice(WRONG_NAMES + self.NAMES)
        return self.chance.choice(list(self.told.clans))

    def turn(self):
        return self.number(self.told.turns() + (1 if self.is_wrong() else 0))

    def row(self):
        turns = self.told.turns() + (self.chance.choice((-1, 1)) if self.is_wrong() else 0)
        return [self.name() for turn in range(turns)]

    def rest(self, first):
        if first == "clan":
            new = self.chance.choice(WRONG_NAMES) if self.is_wrong() else self.chance.choice(self.NAMES)
            return [new, self.weight()]
        if first == "weight":
            return [self.name(), self.weight()]
        if first == "merge":
            one, other = self.name(), self.name()
            return [one, one if self.is_wrong() else other]
        if first == "turns":
            return [self.number(self.chance.choice((3, 5, 8, 61)))]
        if first == "bound":
            return [self.name(), self.ratio(), self.ratio()]
        if first in ("fix", "bar"):
            return [self.turn(), self.name()]
        if first == "free":
            return [self.turn()]
        return self.row() if first == "row" else []

    def weight(self):
        return self.number(self.chance.choice((1, 4, 12, 10 ** 12 - 1)))

    def words(self):
        liked = ("clan",) * 5 + ("turns",) * 3 + ("row",) * 2
        if self.told.row is not None:
            liked = ("mend",) * 8
        first = self.chance.choice(TELLING * 2 + ASKING + liked)
        if first == "clear" and self.chance.random() < 0.6:
            first = "show"
        words = [first] + self.rest(first)
        if self.is_wrong():
            words = self.chance.choice((words + ["a"], words + ["1"], words[:-1], words[1:], [words[0] + ","] + words[1:],
                                        [words[0].upper()] + words[1:]))
        return words


class AllDesks(unittest.TestCase):
    def assert_said(self, desk, told, words, line):
        """The desk answers the line as it ought to, or refuses it and is as it was."""
        wanted = first_refusal(told, words)
        if wanted is None:
            assert_same(self, desk.say(line), told.tell(words))
        else:
            assert_refused(self, wanted, desk.say, line)
        assert_same(self, desk.say("show"), told.show())
        return wanted

    def many_lines(self, seed, wrong, count):
        desk, told = Desk(), Told()
        lines = Drawn(seed, told, wrong)
        found = []
        for again in range(count):
            words = lines.words()
            line = spaced(lines.chance, words)
            with self.subTest(line):
                found.append((words[0] if words else "", self.assert_said(desk, told, words, line)))
        return found

    def test_right_lines(self):
        found = []
        for seed in range(60):
            found += self.many_lines(seed, 0, 100)
        answered = [first for first, refused in found if refused is None]
        for first in TELLING + ASKING:
            self.assertGreater(answered.count(first), 15, first)

    def test_lines_with_some_wrong(self):
        refused = []
        for seed in range(100, 180):
            refused += [kind for first, kind in self.many_lines(seed, 0.08, 100)]
        for kind in ORDER:
            self.assertGreater(refused.count(kind), 5, kind)

    def test_lines_with_much_wrong(self):
        for seed in range(200, 260):
            self.many_lines(seed, 0.4, 60)

    def test_two_desks_dont_know_of_one_another(self):
        desks, tolds = [Desk(), Desk()], [Told(), Told()]
        lines = [Drawn(300 + place, tolds[place], 0.05) for place in (0, 1)]
        chance = random.Random(300)
        for again in range(300):
            place = chance.randrange(2)
            words = lines[place].words()
            self.assert_said(desks[place], tolds[place], words, " ".join(words))
            assert_same(self, desks[1 - place].say("show"), tolds[1 - place].show())
        self.assertEqual(Desk().say("show"), "none")


class Telling(unittest.TestCase):
    def assert_shown(self, wanted, *lines):
        desk = said(*lines)
        self.assertEqual(desk.say("show"), wanted)
        return desk

    def test_the_documents_own_texts(self):
        self.assert_shown("ann 3 1 1/2", "clan ann 3", "bound ann 1 1/2")
        self.assert_shown("ann 3 1 1, bo 0 1 1, turns 4 3 0", "clan ann 3", "clan bo 0", "turns 4")

    def test_nothing(self):
        self.assertEqual(Desk().say("show"), "none")
        self.assert_shown("none", "clear")
        self.assertEqual(Desk().say(line="  show "), "none")

    def test_the_answer_is_a_text(self):
        desk = said("clan a 1", "clan b 2", "turns 3", "row a b a")
        for line in ("show", "least", "keep", "place", "mend", "round", "clear"):
            self.assertIs(type(desk.say(line)), str)

    def test_a_clan(self):
        self.assert_shown("a 0 1 1", "clan a 0")
        self.assert_shown("zzzzzzzz 999999999999 1 1", "clan zzzzzzzz 999999999999")
        self.assert_shown("b 1 1 1, a 2 1 1", "clan b 1", "clan a 2")

    def test_names_that_are_words_of_lines(self):
        desk = said("clan turns 1", "clan row 2", "clan show 3", "turns 2", "fix 1 turns", "row show row", "merge row turns")
        self.assertEqual(desk.say("show"), "turns 0 1 1, row 3 1 1, show 3 1 1, turns 2 1 2 3, fix 1 turns, row show row")

    def test_eight_clans(self):
        lines = [f"clan {name} {place}" for place, name in enumerate("abcdefgh")]
        desk = said(*lines)
        assert_refused(self, errors.TooMany, desk.say, "clan i 1")
        self.assertEqual(desk.say("show"), ", ".join(f"{name} {place} 1 1" for place, name in enumerate("abcdefgh")))

    def test_blanks(self):
        for line in ("clan ann 3", " clan ann 3", "clan ann 3 ", "   clan    ann  3   ", "clan ann" + " " * 3000 + "3"):
            self.assert_shown("ann 3 1 1", line)

    def test_weights(self):
        self.assert_shown("a 5 1 1, b 2 1 1", "clan a 1", "clan b 2", "weight a 5")
        self.assert_shown("a 0 1 1", "clan a 1", "weight a 0")
        self.assert_shown("a 7 1 1, turns 2 1, turns 3 7", "clan a 1", "turns 2", "weight a 7", "turns 3")

    def test_a_merge(self):
        self.assert_shown("a 3 1 1, b 0 1 1", "clan a 1", "clan b 2", "merge a b")
        self.assert_shown("a 0 1 1, b 3 1 1", "clan a 1", "clan b 2", "merge b a")
        self.assert_shown("a 0 1 1, b 0 1 1", "clan a 0", "clan b 0", "merge b a")
        self.assert_shown("a 0 2 1/2, b 3 1 1, turns 2 1 2, turns 1 0 3, fix 1 a", "clan a 1", "clan b 2", "bound a 2 1/2",
                          "turns 2", "fix 1 a", "merge b a", "turns 1")

    def test_merged_weights_of_more_figures(self):
        most = 10 ** 12 - 1
        lines = [f"clan {name} {most}" for name in "abcdefgh"] + [f"merge a {name}" for name in "bcdefgh"]
        desk = said(*lines)
        self.assertTrue(desk.say("show").startswith(f"a {8 * most} 1 1, b 0 1 1"))
        for again in range(20):
            self.assertEqual([desk.say(f"weight b {most}"), desk.say("merge b a"), desk.say(f"weight a {most}"),
                              desk.say("merge a b")], ["ok"] * 4)
        self.assertTrue(desk.say("show").startswith(f"a {48 * most} 1 1, b 0 1 1"))
        self.assertEqual([desk.say("turns 3"), desk.say("least"), desk.say("round")], ["ok", "0 a a a", "1 0 a"])

    def test_a_clan_behind_turns_told(self):
        self.assert_shown("a 1 1 1, b 2 1 1, turns 4 1 0", "clan a 1", "turns 4", "clan b 2")
        self.assert_shown("a 1 1 1, b 2 1 1, c 3 1 1, turns 4 1 0 0, turns 2 1 2 0, turns 5 1 2 3", "clan a 1", "turns 4",
                          "clan b 2", "turns 2", "clan c 3", "turns 5")

    def test_turns_let_the_row_go(self):
        lines = ["clan a 1", "turns 2", "row a a"]
        self.assert_shown("a 1 1 1, turns 2 1, row a a", *lines)
        self.assert_shown("a 1 1 1, turns 2 1, turns 1 1", *lines, "turns 1")
        self.assert_shown("a 1 1 1, b 3 1 1, turns 2 1 0, row a a", *lines, "clan b 3")
        self.assert_shown("a 9 1 1, turns 2 1, row a a", *lines, "weight a 9")
        self.assert_shown("a 0 0 10, b 4 1 1, turns 2 1 0, fix 1 b, row a a", *lines, "clan b 3", "merge b a", "fix 1 b",
                          "bound a 0 10")

    def test_turns_that_are_refused_dont(self):
        desk = said("clan a 1", "turns 2", "row a a")
        for line in ("turns 0", "turns 59", "turns x"):
            with self.assertRaises(errors.ClanError):
                desk.say(line)
        self.assertEqual(desk.say("show"), "a 1 1 1, turns 2 1, row a a")

    def test_rules(self):
        lines = ["clan a 1", "clan b 1", "turns 3", "fix 3 b", "bar 1 a", "fix 1 b", "bar 3 b", "bar 1 a"]
        start = "a 1 1 1, b 1 1 1, turns 3 1 1"
        self.assert_shown(start + ", fix 3 b, bar 1 a, fix 1 b, bar 3 b, bar 1 a", *lines)
        self.assert_shown(start + ", fix 3 b, bar 3 b", *lines, "free 1")
        self.assert_shown(start + ", bar 1 a, fix 1 b, bar 1 a", *lines, "free 3")
        self.assert_shown(start + ", fix 3 b, bar 1 a, fix 1 b, bar 3 b, bar 1 a", *lines, "free 2")
        self.assert_shown(start, *lines, "free 3", "free 1")

    def test_rules_stay_with_more_turns(self):
        self.assert_shown("a 1 1 1, turns 1 1, turns 1 1, bar 1 a, fix 2 a", "clan a 1", "turns 1", "bar 1 a", "turns 1",
                          "fix 2 a")

    def test_bounds(self):
        self.assert_shown("a 1 0 10, b 1 7/3 1/999999999999", "clan a 1", "clan b 1", "bound a 0 10",
                          "bound b 7/3 1/999999999999")
        self.assert_shown("a 1 1/2 3", "clan a 1", "bound a 5 5", "bound a 1/2 3")

    def test_rows(self):
        lines = ["clan a 1", "clan b 1", "turns 2"]
        self.assert_shown("a 1 1 1, b 1 1 1, turns 2 1 1, row b b", *lines, "row b b")
        self.assert_shown("a 1 1 1, b 1 1 1, turns 2 1 1, row b a", *lines, "row b b", "row b a")

    def test_clear(self):
        lines = ["clan a 4", "clan b 1", "bound a 1/2 2", "turns 2", "weight b 3", "fix 1 a", "row b b", "clear"]
        self.assert_shown("a 4 1/2 2, b 3 1 1", *lines)
        self.assert_shown("a 4 1/2 2, b 3 1 1", *lines, "clear")
        self.assert_shown("a 4 1/2 2, b 3 1 1, turns 60 4 3", *lines, "turns 60")
        assert_refused(self, errors.NoRow, said(*lines, "turns 2").say, "mend")

    def test_sixty_turns_and_eight_spells(self):
        desk = said("clan a 1", "turns 30", "turns 30")
        assert_refused(self, errors.NoSpell, desk.say, "turns 1")
        desk = said("clan a 1", *["turns 1"] * 8)
        assert_refused(self, errors.NoSpell, desk.say, "turns 1")
        self.assertEqual([desk.say("clear"), desk.say("turns 60")], ["ok", "ok"])


class Asking(unittest.TestCase):
    def assert_asked(self, line, wanted, *lines):
        desk = said(*lines)
        before = desk.say("show")
        self.assertEqual(desk.say(line), wanted)
        self.assertEqual(desk.say(line), wanted)
        self.assertEqual(desk.say("show"), before)

    def test_least(self):
        self.assert_asked("least", "0 ann", "clan ann 5", "turns 1")
        self.assert_asked("least", "1/3 bo ann bo", "clan ann 1", "clan bo 2", "turns 3")
        self.assert_asked("least", "1/2 ann bo ann", "clan ann 1", "clan bo 1", "turns 2", "clan cy 7", "weight bo 0",
                          "weight cy 0", "turns 1")

    def test_least_heeds_neither_bounds_nor_rules(self):
        self.assert_asked("least", "1/3 b a b", "clan a 1", "clan b 2", "turns 3", "bound a 0 0", "fix 1 a", "row a a a")

    def test_keep(self):
        lines = ["clan a 1", "clan b 1", "turns 2"]
        self.assert_asked("keep", "row a b", *lines, "bound a 1/2 1/2", "bound b 1/2 1/2")
        self.assert_asked("keep", "row a b", *lines, "bound a 1/2 1/2", "bound b 1/2 1/2", "fix 1 b", "row b b")
        self.assert_asked("keep", "crowd 1 1", *lines, "bound a 0 1", "bound b 0 1")
        self.assert_asked("keep", "lack 1", *lines, "bound a 1 0", "bound b 1 0")

    def test_place(self):
        lines = ["clan ann 1", "clan bo 1", "turns 2", "bound ann 1/2 1/2", "bound bo 1/2 1/2"]
        self.assert_asked("place", "row bo ann", *lines, "fix 1 bo")
        self.assert_asked("place", "row ann bo", *lines, "bar 1 bo", "row bo bo")
        self.assert_asked("place", "turns 1", *lines[:3], "bound ann 10 10", "bound bo 10 10", "fix 1 ann", "fix 1 bo")

    def test_place_with_visits_and_turns(self):
        desk = said("clan ann 1", "clan bo 1", "turns 1", "bound ann 0 1", "bound bo 0 1")
        self.assertEqual(desk.say("place"), "visits ann 1, bo 1")
        desk = said("clan ann 1", "turns 2", "bound ann 0 0", "bar 2 ann")
        self.assertEqual(desk.say("place"), "visits ann 2")
        desk = said("clan ann 1", "clan bo 3", "turns 4", "bound ann 10 0", "bound bo 10 10", "fix 1 ann", "row bo bo bo bo")
        self.assertEqual([desk.say("place"), desk.say("mend")], ["turns 1"] * 2)
        desk = said("clan ann 1", "clan bo 1", "turns 4", "bound ann 10 0", "bound bo 10 10", "fix 3 ann", "fix 2 ann",
                    "row ann bo bo bo")
        self.assertEqual([desk.say("place"), desk.say("mend")], ["turns 2 3"] * 2)

    def test_mend(self):
        lines = ["clan a 1", "clan b 1", "turns 2", "bound a 1/2 1/2", "bound b 1/2 1/2"]
        self.assert_asked("mend", "row 0 b a", *lines, "row b a")
        self.assert_asked("mend", "row 1 a b", *lines, "row a a")
        self.assert_asked("mend", "row 2 b a", *lines, "row a b", "bar 1 a")
        self.assert_asked("mend", "row 0 a b", *lines, "row a b", "clan c 5", "weight a 7")

    def test_round_goes_by_the_present_weights(self):
        self.assert_asked("round", "1 0 ann", "clan ann 12")
        self.assert_asked("round", "3 1/3 bo ann bo", "clan ann 10", "clan bo 20")
        self.assert_asked("round", "2 1/2 a b", "clan a 1", "clan b 3", "turns 7", "weight a 3", "bound a 0 0")
        self.assert_asked("round", "3 1/3 b a b", "clan a 1", "clan b 1", "clan c 1", "turns 60", "merge b c")

    def test_sixty_turns(self):
        desk = said("clan a 59", "clan b 1", "turns 60")
        self.assertTrue(desk.say("round").startswith("60 "))
        self.assertEqual(desk.say("round").split()[1:], desk.say("least").split())


class Refused(unittest.TestCase):
    def assert_first(self, wanted, line, *lines):
        """The line is refused with the wanted class, in a desk that was told the lines, and changes nothing."""
        desk = said(*lines)
        before = desk.say("show")
        assert_refused(self, wanted, desk.say, line)
        self.assertEqual(desk.say("show"), before)

    FULL = ("clan a 1", "clan bo 2", "bound bo 1/2 2", "turns 3", "fix 1 a", "row a bo a")
    EIGHT = tuple(f"clan {name} 1" for name in "abcdefgh") + ("turns 60", "bar 60 h", "row" + " a" * 60)
    EMPTY = ()

    def test_no_word(self):
        for lines in (self.EMPTY, self.FULL, self.EIGHT):
            for line in ("", " ", "      "):
                self.assert_first(errors.NoLine, line, *lines)

    def test_another_first_word(self):
        for lines in (self.EMPTY, self.FULL):
            for word in WRONG_FIRST_WORDS:
                for rest in ("", " a", " a 1", " a 1 1", " 1 a", " 1"):
                    self.assert_first(errors.NoLine, word + rest, *lines)

    def test_a_word_too_few_or_too_many(self):
        right = {"clan": "c 1", "weight": "a 1", "merge": "a bo", "turns": "1", "bound": "a 1 1", "fix": "1 a",
                 "bar": "1 a", "free": "1"}
        for first in TELLING + ASKING:
            if first != "row":
                rest = right.get(first, "").split()
                for more in ("a", "1", "01", "Q", "1/2", "a 1"):
                    self.assert_first(errors.NoLine, " ".join([first] + rest + [more]), *self.FULL)
                for count in range(len(rest)):
                    self.assert_first(errors.NoLine, " ".join([first] + rest[:count]), *self.FULL)
                    self.assert_first(errors.NoLine, " ".join([first] + ["Q"] * count), *self.FULL)
        for lines in (self.EMPTY, self.FULL, ("clan a 1",)):
            self.assert_first(errors.NoLine, "row", *lines)
            self.assert_first(errors.NoLine, " row  ", *lines)

    def test_a_merge_of_one_with_itself(self):
        for lines in (self.EMPTY, self.FULL):
            for name in ("a", "bo", "q", "Q", "1", "a" * 9, "merge"):
                self.assert_first(errors.NoLine, f"merge {name} {name}", *lines)

    def test_no_number(self):
        for lines in (self.EMPTY, self.FULL, self.EIGHT):
            for word in WRONG_NUMBERS:
                for name in ("a", "c", "Q", "q", "a" * 9):
                    for line in (f"clan {name} {word}", f"weight {name} {word}", f"fix {word} {name}", f"bar {word} {name}"):
                        self.assert_first(errors.NoNumber, line, *lines)
                for line in (f"turns {word}", f"free {word}"):
                    self.assert_first(errors.NoNumber, line, *lines)

    def test_no_text(self):
        for word in WRONG_RATIOS:
            for name in ("a", "q", "Q"):
                for rest in (f"{word} 1", f"1 {word}", f"{word} {word}", f"-1 {word}", f"{word} 11"):
                    self.assert_first(errors.NoText, f"bound {name} {rest}", *self.FULL)

    def test_no_name(self):
        for lines in (self.EMPTY, self.FULL, self.EIGHT):
            for name in WRONG_NAMES:
                self.assert_first(errors.NoName, f"clan {name} 1", *lines)
            for name in WRONG_NAMES + ("q", "zebedees", "show", "aa"):
                for line in (f"weight {name} 1", f"merge a {name}", f"merge {name} a", f"bound {name} 1 1", f"fix 1 {name}",
                             f"bar 1 {name}", f"fix 61 {name}", f"bar 0 {name}", f"bound {name} 11 -1", f"row {name}",
                             f"row a {name} a", f"row a a a a {name}"):
                    self.assert_first(errors.NoName, line, *lines)

    def test_known(self):
        for weight in ("0", "1", "999999999999"):
            self.assert_first(errors.Known, f"clan a {weight}", *self.FULL)
            self.assert_first(errors.Known, f"clan bo {weight}", *self.FULL)
            for name in "abcdefgh":
                self.assert_first(errors.Known, f"clan {name} {weight}", *self.EIGHT)

    def test_too_many(self):
        for name in ("i", "zebedees", "turns"):
            self.assert_first(errors.TooMany, f"clan {name} 0", *self.EIGHT)
            self.assert_first(errors.TooMany, f"clan {name} 5", *self.EIGHT, "clear")

    def test_no_bounds(self):
        for word in OUT_OF_BOUNDS:
            for rest in (f"{word} 1", f"1 {word}", f"{word} {word}", f"{word} -1", f"11 {word}"):
                self.assert_first(errors.NoBounds, f"bound a {rest}", *self.FULL)
                self.assert_first(errors.NoBounds, f"bound bo {rest}", *self.FULL)

    def test_no_spell(self):
        for line in ("turns 0", "turns 58", "turns 60", "turns 999999999999"):
            self.assert_first(errors.NoSpell, line, *self.FULL)
        for line in ("turns 1", "turns 0", "turns 60", "turns 61"):
            self.assert_first(errors.NoSpell, line)
            self.assert_first(errors.NoSpell, line, "clan a 0")
            self.assert_first(errors.NoSpell, line, "clan a 0", "clan b 0")
            self.assert_first(errors.NoSpell, line, "clan a 1", *["turns 2"] * 8)
            self.assert_first(errors.NoSpell, line, *self.EIGHT)
            self.assert_first(errors.NoSpell, line, "clan a 1", "turns 2", "weight a 0", "row a a")
        for line in ("least", "keep", "place", "mend"):
            self.assert_first(errors.NoSpell, line)
            self.assert_first(errors.NoSpell, line, "clan a 1", "clan b 2")
            self.assert_first(errors.NoSpell, line, *self.FULL, "clear")
        for lines in ((), ("clan a 0",), ("clan a 0", "clan b 0"), ("clan a 1", "turns 1", "weight a 0")):
            self.assert_first(errors.NoSpell, "round", *lines)

    def test_no_rule(self):
        for turn in ("0", "4", "5", "60", "61", "999999999999"):
            for line in (f"fix {turn} a", f"bar {turn} bo", f"free {turn}"):
                self.assert_first(errors.NoRule, line, *self.FULL)
        for turn in ("0", "1", "2"):
            for line in (f"fix {turn} a", f"bar {turn} bo", f"free {turn}"):
                self.assert_first(errors.NoRule, line, "clan a 1", "clan bo 1")
                self.assert_first(errors.NoRule, line, *self.FULL, "clear")
        self.assert_first(errors.NoRule, "free 1")

    def test_no_row(self):
        for names in ("a", "a a", "a a a a", " ".join(["bo"] * 60)):
            self.assert_first(errors.NoRow, f"row {names}", *self.FULL)
            self.assert_first(errors.NoRow, f"row {names}", *self.FULL, "clear")
            self.assert_first(errors.NoRow, f"row {names}", "clan a 1", "clan bo 1")
        self.assert_first(errors.NoRow, "mend", "clan a 1", "turns 2")
        self.assert_first(errors.NoRow, "mend", *self.FULL, "turns 2")
        self.assert_first(errors.NoRow, "mend", *self.FULL, "clear", "turns 3")

    def test_too_long(self):
        self.assert_first(errors.TooLong, "round", "clan a 60", "clan b 1")
        self.assert_first(errors.TooLong, "round", "clan a 1", "clan b 1", "turns 60", "weight b 999999999999")

    def test_a_line_that_is_refused_is_as_if_never_said(self):
        desk = said(*self.FULL)
        before = [desk.say(line) for line in ASKING]
        for line in ("clan a 1", "clan Q 1", "weight q 1", "merge a q", "turns 0", "bound a 1 11", "bound a -1 1", "fix 4 a",
                     "bar 0 bo", "free 4", "row a a", "row a a q", "clear 1", "mend 1", "x"):
            with self.assertRaises(errors.ClanError):
                desk.say(line)
            self.assertEqual([desk.say(line) for line in ASKING], before)
