"""Spells: turns with the clans' weights, and the quotas that come of them [6, 7]."""

from chairclans.errors import NoSpell
from chairclans.ratios import common_divisor

MOST_SPELLS = 8
MOST_CLANS = 8
MOST_TURNS = 60


def check_weights(weights):
    if not 1 <= len(weights) <= MOST_CLANS:
        raise NoSpell("there are one to eight clans")
    for weight in weights:
        if weight < 0:
            raise NoSpell("a weight is from 0 on")
        if weight >= 10 ** 30:
            raise NoSpell("a weight has at most thirty figures")
    if sum(weights) == 0:
        raise NoSpell("the weights are not all 0")


def all_turns(spells):
    return sum([spell[0] for spell in spells])


def check_spells(spells):
    if not 1 <= len(spells) <= MOST_SPELLS:
        raise NoSpell("there are one to eight spells")
    for turns, weights in spells:
        if turns < 1:
            raise NoSpell("a spell's turns are from 1 on")
        check_weights(weights)
        if len(weights) != len(spells[0][1]):
            raise NoSpell("there are as many weights in each spell")
    if all_turns(spells) > MOST_TURNS:
        raise NoSpell("there are at most sixty turns in all")


def turns_of(spells):
    check_spells(spells)
    return all_turns(spells)


def divisor_of_all(weights):
    divisor = 0
    for weight in weights:
        divisor = common_divisor(divisor, weight)
    return divisor


def least_bottom(spells):
    # A share is what two quotas are apart, so a bottom makes all quotas whole just where it makes all shares whole.
    bottom = 1
    for spell in spells:
        parts = sum(spell[1]) // divisor_of_all(spell[1])
        bottom = bottom * parts // common_divisor(bottom, parts)
    return bottom


def shares_over(bottom, weights):
    total = sum(weights)
    return [weight * bottom // total for weight in weights]


def quotas(spells):
    check_spells(spells)
    bottom = least_bottom(spells)
    latest = [0 for weight in spells[0][1]]
    told = [latest]
    for turns, weights in spells:
        shares = shares_over(bottom, weights)
        for turn in range(turns):
            latest = [quota + share for quota, share in zip(latest, shares)]
            told.append(latest)
    return (bottom, told)
