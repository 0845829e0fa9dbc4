"""The refusals: one class for each, all of them under ClanError."""


class ClanError(ValueError):
    pass


class NoRatio(ClanError):
    pass


class NoText(ClanError):
    pass


class NoSpell(ClanError):
    pass


class NoRow(ClanError):
    pass


class NoBounds(ClanError):
    pass


class NoDistance(ClanError):
    pass


class NoClan(ClanError):
    pass


class TooLong(ClanError):
    pass


class NoRule(ClanError):
    pass


class NoLine(ClanError):
    pass


class NoNumber(ClanError):
    pass


class NoName(ClanError):
    pass


class Known(ClanError):
    pass


class TooMany(ClanError):
    pass
