"""Rules: turns that are fixed for a clan, or barred to it [19]."""

from chairclans.errors import NoRule

FIXED = "fixed"
BARRED = "barred"


def check_turn(turn, turns):
    if not 1 <= turn <= turns:
        raise NoRule("a rule is of one of the turns")


def check_rules(rules, turns, clans):
    for word, turn, clan in rules:
        if word not in (FIXED, BARRED):
            raise NoRule("a rule is fixed or barred")
        check_turn(turn, turns)
        if not 0 <= clan < clans:
            raise NoRule("a rule is of one of the clans")


def forbidden(rules, clans):
    found = {}
    for word, turn, clan in rules:
        for other in range(clans):
            # What is fixed for a clan is barred to all others.
            if (other == clan) == (word == BARRED):
                found[(turn, other)] = True
    return found
