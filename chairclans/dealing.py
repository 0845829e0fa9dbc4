"""Dealing: each turn gets the most pressing visit, or it is told why there is no row [13, 14, 15]."""

from chairclans.bounds import rooms_of
from chairclans.spells import quotas, turns_of
from chairclans.windows import windows_within


def pressing(visit, turns):
    # A last turn behind all turns puts the visits that need not come behind all others.
    last = turns + 1 if visit[3] is None else visit[3]
    return (last, visit[0], visit[1])


def place_of_opened(waiting, turn):
    for place, visit in enumerate(waiting):
        if visit[2] <= turn:
            return place
    return None


def is_late(waiting, gone):
    # The most pressing visit stands first: where it is not late, none is.
    return len(waiting) > 0 and waiting[0][3] is not None and waiting[0][3] <= gone


def start_of_crowd(given):
    # A turn that got a visit with a later last turn had none of the crowd open: these all open behind it.
    start = 1
    for turn, visit in enumerate(given, start=1):
        if visit[3] is None or visit[3] > len(given):
            start = turn + 1
    return start


def deal(turns, windows):
    waiting = sorted(windows, key=lambda visit: pressing(visit, turns))
    given = []
    while len(given) < turns and not is_late(waiting, len(given)):
        place = place_of_opened(waiting, len(given) + 1)
        if place is None:
            # All visits that have opened are given, one a turn, so there are fewer of them than turns.
            return ("lack", len(given) + 1)
        given.append(waiting.pop(place))
    if is_late(waiting, len(given)):
        return ("crowd", start_of_crowd(given), len(given))
    return ("row", [visit[0] for visit in given])


def dealt(spells, bounds):
    told = quotas(spells)
    return deal(turns_of(spells), windows_within(told, rooms_of(told, bounds)))
