"""Rows of turns: their distance, and whether they keep bounds [8, 9]."""

from chairclans.bounds import rooms_of
from chairclans.errors import NoRow
from chairclans.ratios import ratio
from chairclans.spells import quotas


def check_row(row, turns, clans):
    if len(row) != turns:
        raise NoRow("a row has as many clans' numbers as there are turns")
    for clan in row:
        if not 0 <= clan < clans:
            raise NoRow("a row holds the numbers of clans alone")


def leads(told, row):
    bottom = told[0]
    by_turn = told[1]
    check_row(row, len(by_turn) - 1, len(by_turn[0]))
    had = [0 for quota in by_turn[0]]
    found = []
    for clan, latest in zip(row, by_turn[1:]):
        had[clan] += bottom
        found.append([own - quota for own, quota in zip(had, latest)])
    return found


def distance(spells, row):
    told = quotas(spells)
    farthest = 0
    for latest in leads(told, row):
        farthest = max(farthest, max(latest), -min(latest))
    return ratio(farthest, told[0])


def keeps(spells, bounds, row):
    told = quotas(spells)
    rooms = rooms_of(told, bounds)
    for latest in leads(told, row):
        for lead, room in zip(latest, rooms):
            if lead < -room[0] or lead > room[1]:
                return False
    return True
