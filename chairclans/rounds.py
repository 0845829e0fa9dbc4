"""Rounds: rows that come round, and keep their distance for ever [18]."""

from chairclans.errors import TooLong
from chairclans.least import least
from chairclans.spells import MOST_TURNS, check_weights, divisor_of_all


def round_of(weights):
    check_weights(weights)
    turns = sum(weights) // divisor_of_all(weights)
    if turns > MOST_TURNS:
        raise TooLong("a round has at most sixty turns")
    return (turns,) + least([(turns, weights)])
