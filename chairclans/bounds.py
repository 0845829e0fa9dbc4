"""Bounds: how far a clan may be behind its quota and ahead of it [9]."""

from chairclans.errors import NoBounds
from chairclans.ratios import less

LEAST_BOUND = (0, 1)
MOST_BOUND = (10, 1)


def check_bounds(bounds, clans):
    if len(bounds) != clans:
        raise NoBounds("there are as many bounds as clans")
    for below, above in bounds:
        for bound in (below, above):
            if less(bound, LEAST_BOUND) or less(MOST_BOUND, bound):
                raise NoBounds("a bound is from 0 to 10")


def room_at_most(bottom, bound):
    # Over the quotas' bottom all that is held against a bound is whole, so the bound's whole part says as much.
    return bound[0] * bottom // bound[1]


def room_less(bottom, bound):
    return (bound[0] * bottom - 1) // bound[1]


def rooms_of(told, bounds):
    bottom = told[0]
    check_bounds(bounds, len(told[1][0]))
    return [(room_at_most(bottom, below), room_at_most(bottom, above)) for below, above in bounds]
