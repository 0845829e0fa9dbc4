"""The least distance of spells, a row that keeps it, and why none keeps a lesser one [16, 17]."""

from chairclans.dealing import deal
from chairclans.errors import NoClan
from chairclans.ratios import ratio
from chairclans.spells import MOST_CLANS, quotas
from chairclans.windows import windows_within


def promised(clans):
    if not 1 <= clans <= MOST_CLANS:
        raise NoClan("there are one to eight clans")
    if clans == 1:
        return (0, 1)
    return ratio(2 * clans - 3, 2 * clans - 2)


def dealt_within(told, room):
    by_turn = told[1]
    rooms = [(room, room) for quota in by_turn[0]]
    return deal(len(by_turn) - 1, windows_within(told, rooms))


def possible_rooms(told):
    # The least distance is below 1 [17]: each clan has had the whole number next to its quota, below or above.
    found = {}
    for latest in told[1]:
        for quota in latest:
            found[quota % told[0]] = True
            found[-quota % told[0]] = True
    return sorted(found)


def least_room(told):
    rooms = possible_rooms(told)
    low = 0
    high = len(rooms) - 1
    while low < high:
        middle = (low + high) // 2
        if dealt_within(told, rooms[middle])[0] == "row":
            high = middle
        else:
            low = middle + 1
    return rooms[low]


def least(spells):
    told = quotas(spells)
    room = least_room(told)
    row = dealt_within(told, room)[1]
    why = None
    if room > 0:
        # Over the bottom all is whole, so what is less than the distance is at most one part less.
        why = dealt_within(told, room - 1)
    return (ratio(room, told[0]), row, why)
