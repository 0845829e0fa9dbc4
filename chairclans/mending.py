"""Mending: a row by bounds and rules with the fewest changed turns, and prices that show it [21, 22]."""

from chairclans.bounds import rooms_of
from chairclans.placing import choices_of_turns, move_along, place_visits
from chairclans.rows import check_row
from chairclans.spells import quotas
from chairclans.windows import windows_within


def costs_of_turns(visits, choices, row):
    found = []
    for clan, places in zip(row, choices):
        costs = {}
        for place in places:
            costs[place] = 0 if visits[place][0] == clan else 1
        found.append(costs)
    return found


def first_price(visit, turns):
    # More than all changes together could cost: so it never pays to leave a due visit out.
    return 0 if visit[3] is None else turns + 1


class Market:
    # Of a turn that has a visit both prices come to just the cost, and with any other visit to no more than the cost;
    # a visit that no turn has is still at its first price. So in the end all prices come to the costs together.

    def __init__(self, visits, costs):
        self.costs = costs
        self.turn_prices = [0 for turn in costs]
        self.visit_prices = [first_price(visit, len(costs)) for visit in visits]
        self.taken = {}
        self.holders = {}


def look_from(market, turn, gone, far, came):
    for visit, cost in market.costs[turn].items():
        length = gone + cost - market.turn_prices[turn] - market.visit_prices[visit]
        if visit not in far or length < far[visit]:
            far[visit] = length
            came[visit] = turn


def nearest(far, done):
    return min([visit for visit in far if visit not in done], key=lambda visit: far[visit])


def change_prices(market, start, whole, far, done):
    market.turn_prices[start] += whole
    for visit in done:
        market.turn_prices[market.holders[visit]] += whole - far[visit]
        market.visit_prices[visit] -= whole - far[visit]


def serve(market, start):
    # The cheapest way on which the turn gets a visit: each turn on it lets its visit go for another one.
    far = {}
    came = {}
    done = {}
    look_from(market, start, 0, far, came)
    visit = nearest(far, done)
    while visit in market.holders:
        done[visit] = True
        look_from(market, market.holders[visit], far[visit], far, came)
        visit = nearest(far, done)
    change_prices(market, start, far[visit], far, done)
    move_along(visit, came, market.taken, market.holders)


def mend_visits(visits, choices, row):
    market = Market(visits, costs_of_turns(visits, choices, row))
    for turn in range(len(row)):
        serve(market, turn)
    new = [visits[market.taken[turn]][0] for turn in range(len(row))]
    changes = len([clan for clan, former in zip(new, row) if clan != former])
    return ("row", new, changes, market.turn_prices, market.visit_prices)


def mended(spells, bounds, rules, row):
    told = quotas(spells)
    visits = windows_within(told, rooms_of(told, bounds))
    choices = choices_of_turns(told, visits, rules)
    check_row(row, len(choices), len(bounds))
    found = place_visits(visits, choices)
    # Only where some row keeps all is there a visit for each turn, and a turn for each due visit.
    if found[0] != "row":
        return found
    return mend_visits(visits, choices, row)
