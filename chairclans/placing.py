"""Placing: a row by bounds and rules, or the visits or turns that stand against it [19, 20]."""

from chairclans.bounds import rooms_of
from chairclans.rules import check_rules, forbidden
from chairclans.spells import quotas
from chairclans.windows import windows_within


def may_come(visit, turn, barred):
    if turn < visit[2] or (visit[3] is not None and turn > visit[3]):
        return False
    return (turn, visit[0]) not in barred


def choices_of_turns(told, visits, rules):
    # Turns and visits are known by their places in their lists from here on, so that both are told alike.
    turns = len(told[1]) - 1
    clans = len(told[1][0])
    check_rules(rules, turns, clans)
    barred = forbidden(rules, clans)
    found = []
    for turn in range(1, turns + 1):
        found.append([place for place, visit in enumerate(visits) if may_come(visit, turn, barred)])
    return found


def choices_of_visits(visits, choices):
    found = [[] for visit in visits]
    for turn, places in enumerate(choices):
        for place in places:
            found[place].append(turn)
    return found


def move_along(choice, came, taken, holders):
    # Each one on the way takes the choice it came to, and leaves its former one to the one ahead of it.
    while choice is not None:
        taker = came[choice]
        former = taken.get(taker)
        taken[taker] = choice
        holders[choice] = taker
        choice = former


def settle(start, choices, taken, holders):
    reached = [start]
    came = {}
    place = 0
    while place < len(reached):
        seeker = reached[place]
        for choice in choices[seeker]:
            if choice not in came:
                came[choice] = seeker
                if choice not in holders:
                    move_along(choice, came, taken, holders)
                    return []
                reached.append(holders[choice])
        place += 1
    # Those reached hold all their choices between them, and the start holds none: they are one more than these.
    return sorted(reached)


def place_visits(visits, choices):
    turn_of_visit = {}
    visit_of_turn = {}
    turns_for = choices_of_visits(visits, choices)
    for place, visit in enumerate(visits):
        if visit[3] is not None:
            stuck = settle(place, turns_for, turn_of_visit, visit_of_turn)
            if len(stuck) > 0:
                return ("visits", [(visits[other][0], visits[other][1]) for other in stuck])
    for turn in range(len(choices)):
        if turn not in visit_of_turn:
            # A visit once placed stays placed, so all due visits still come.
            stuck = settle(turn, choices, visit_of_turn, turn_of_visit)
            if len(stuck) > 0:
                return ("turns", [other + 1 for other in stuck])
    # Neither openings nor last turns fall with j: so a clan's visits can change places until they come in their order,
    # and its turns alone matter.
    return ("row", [visits[visit_of_turn[turn]][0] for turn in range(len(choices))])


def placed(spells, bounds, rules):
    told = quotas(spells)
    visits = windows_within(told, rooms_of(told, bounds))
    return place_visits(visits, choices_of_turns(told, visits, rules))
