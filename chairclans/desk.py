"""The desk: it is told clans, turns, rules and a row line by line, and answers each line [23 to 27]."""

from chairclans.bounds import check_bounds
from chairclans.dealing import dealt
from chairclans.errors import Known, NoRow, TooMany
from chairclans.least import least
from chairclans.lines import values_of, words_of
from chairclans.mending import mended
from chairclans.placing import placed
from chairclans.rounds import round_of
from chairclans.rows import check_row
from chairclans.rules import BARRED, FIXED, check_turn
from chairclans.spells import MOST_CLANS, all_turns, check_spells
from chairclans.texts import shown

DONE = "ok"
FIRST_BOUNDS = ((1, 1), (1, 1))
WORDS_OF_RULES = {"fixed": "fix", "barred": "bar"}


def tell_clan(desk, values):
    if values[0] in desk.names:
        raise Known("a clan has this name already")
    if len(desk.names) == MOST_CLANS:
        raise TooMany("there are at most eight clans")
    desk.names.append(values[0])
    desk.weights.append(values[1])
    desk.bounds.append(FIRST_BOUNDS)
    desk.spells = [(turns, weights + [0]) for turns, weights in desk.spells]
    return DONE


def tell_weight(desk, values):
    desk.weights[values[0]] = values[1]
    return DONE


def tell_merge(desk, values):
    desk.weights[values[0]] += desk.weights[values[1]]
    desk.weights[values[1]] = 0
    return DONE


def tell_turns(desk, values):
    spells = desk.spells + [(values[0], list(desk.weights))]
    check_spells(spells)
    desk.spells = spells
    desk.row = None
    return DONE


def tell_bound(desk, values):
    bounds = (values[1], values[2])
    check_bounds([bounds], 1)
    desk.bounds[values[0]] = bounds
    return DONE


def add_rule(desk, word, turn, clan):
    check_turn(turn, all_turns(desk.spells))
    desk.rules.append((word, turn, clan))
    return DONE


def tell_fix(desk, values):
    return add_rule(desk, FIXED, values[0], values[1])


def tell_bar(desk, values):
    return add_rule(desk, BARRED, values[0], values[1])


def tell_free(desk, values):
    check_turn(values[0], all_turns(desk.spells))
    desk.rules = [rule for rule in desk.rules if rule[1] != values[0]]
    return DONE


def tell_row(desk, values):
    check_row(values, all_turns(desk.spells), len(desk.names))
    desk.row = values
    return DONE


def tell_clear(desk, values):
    desk.spells = []
    desk.rules = []
    desk.row = None
    return DONE


def names_of(desk, row):
    return " ".join([desk.names[clan] for clan in row])


def numbers_in(numbers):
    return " ".join([str(number) for number in numbers])


def shown_clan(desk, clan):
    bounds = desk.bounds[clan]
    return " ".join([desk.names[clan], str(desk.weights[clan]), shown(bounds[0]), shown(bounds[1])])


def shown_rule(desk, rule):
    return " ".join([WORDS_OF_RULES[rule[0]], str(rule[1]), desk.names[rule[2]]])


def answer_show(desk, values):
    parts = [shown_clan(desk, clan) for clan in range(len(desk.names))]
    for turns, weights in desk.spells:
        parts.append("turns " + numbers_in([turns] + weights))
    for rule in desk.rules:
        parts.append(shown_rule(desk, rule))
    if desk.row is not None:
        parts.append("row " + names_of(desk, desk.row))
    if len(parts) == 0:
        return "none"
    return ", ".join(parts)


def answer_least(desk, values):
    told = least(desk.spells)
    return shown(told[0]) + " " + names_of(desk, told[1])


def answer_keep(desk, values):
    told = dealt(desk.spells, desk.bounds)
    if told[0] == "row":
        return "row " + names_of(desk, told[1])
    return told[0] + " " + numbers_in(told[1:])


def shown_place(desk, told):
    if told[0] == "row":
        return "row " + names_of(desk, told[1])
    if told[0] == "turns":
        return "turns " + numbers_in(told[1])
    return "visits " + ", ".join([desk.names[clan] + " " + str(j) for clan, j in told[1]])


def answer_place(desk, values):
    return shown_place(desk, placed(desk.spells, desk.bounds, desk.rules))


def answer_mend(desk, values):
    check_spells(desk.spells)
    if desk.row is None:
        raise NoRow("there is no row to mend")
    told = mended(desk.spells, desk.bounds, desk.rules, desk.row)
    if told[0] == "row":
        return " ".join(["row", str(told[2]), names_of(desk, told[1])])
    return shown_place(desk, told)


def answer_round(desk, values):
    told = round_of(desk.weights)
    return " ".join([str(told[0]), shown(told[1]), names_of(desk, told[2])])


ANSWERS = {
    "clan": tell_clan,
    "weight": tell_weight,
    "merge": tell_merge,
    "turns": tell_turns,
    "bound": tell_bound,
    "fix": tell_fix,
    "bar": tell_bar,
    "free": tell_free,
    "row": tell_row,
    "clear": tell_clear,
    "show": answer_show,
    "least": answer_least,
    "keep": answer_keep,
    "place": answer_place,
    "mend": answer_mend,
    "round": answer_round,
}


class Desk:
    def __init__(self):
        self.names = []
        self.weights = []
        self.bounds = []
        self.spells = []
        self.rules = []
        self.row = None

    def say(self, line):
        words = words_of(line)
        values = values_of(words, self.names)
        answer = ANSWERS[words[0]]
        return answer(self, values)
