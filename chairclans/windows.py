"""Windows: from which turn on, and up to which, each visit of a clan may come [10, 11, 12]."""

from chairclans.bounds import MOST_BOUND, room_less, rooms_of
from chairclans.errors import NoDistance
from chairclans.ratios import less
from chairclans.spells import quotas


def first_turn(path, wanted):
    for turn in range(1, len(path)):
        if path[turn] >= wanted:
            return turn
    return len(path)


def window_of(bottom, path, j, room):
    opens = first_turn(path, j * bottom - room[1])
    # Quotas don't fall, so the turn at which one is too far ahead of j - 1 visits is the last for visit j to come.
    last = first_turn(path, (j - 1) * bottom + room[0] + 1)
    if last == len(path):
        return (opens, None)
    return (opens, last)


def windows_of_clan(told, clan, room):
    path = [latest[clan] for latest in told[1]]
    found = []
    j = 1
    window = window_of(told[0], path, j, room)
    # Neither openings nor last turns fall with j, so behind a visit that isn't told there is none to tell.
    while window[0] < len(path) or window[1] is not None:
        found.append((clan, j, window[0], window[1]))
        j += 1
        window = window_of(told[0], path, j, room)
    return found


def windows_within(told, rooms):
    found = []
    for clan, room in enumerate(rooms):
        found.extend(windows_of_clan(told, clan, room))
    return found


def windows(spells, bounds):
    told = quotas(spells)
    return windows_within(told, rooms_of(told, bounds))


def windows_less(spells, least):
    told = quotas(spells)
    if not less((0, 1), least) or less(MOST_BOUND, least):
        raise NoDistance("a distance is above 0 and at most 10")
    room = room_less(told[0], least)
    return windows_within(told, [(room, room) for quota in told[1][0]])
