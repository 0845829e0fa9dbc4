"""Lines that are told to a desk: their words, and what these stand for [23, 27]."""

from chairclans.errors import NoLine, NoName, NoNumber
from chairclans.texts import FIGURES, read

LETTERS = "abcdefghijklmnopqrstuvwxyz"
MOST_LETTERS = 8
LONGEST_NUMBER = 12

# What stands behind the first word. A row has as many names as it likes, so it is not among these.
FORMS = {
    "clan": ("new", "number"),
    "weight": ("name", "number"),
    "merge": ("name", "name"),
    "turns": ("number",),
    "bound": ("name", "ratio", "ratio"),
    "fix": ("number", "name"),
    "bar": ("number", "name"),
    "free": ("number",),
    "clear": (),
    "show": (),
    "least": (),
    "keep": (),
    "place": (),
    "mend": (),
    "round": (),
}
# Of several wrong words it is the first of these kinds that is refused, wherever it stands in the line.
KINDS = ("number", "ratio", "new", "name")


def words_of(line):
    return [word for word in line.split(" ") if word != ""]


def form_of(words):
    if len(words) == 0:
        raise NoLine("a line has a word")
    if words[0] == "row":
        return ("name",) * max(1, len(words) - 1)
    if words[0] not in FORMS:
        raise NoLine("no line begins so")
    return FORMS[words[0]]


def check_form(words, form):
    if len(words) != len(form) + 1:
        raise NoLine("the line has too few words or too many")
    if words[0] == "merge" and words[1] == words[2]:
        raise NoLine("a clan doesn't merge with itself")


def is_made_of(word, signs, longest):
    return len(word) <= longest and all([sign in signs for sign in word])


def number_of(word):
    if not is_made_of(word, FIGURES, LONGEST_NUMBER):
        raise NoNumber("a number has one to twelve figures")
    if word[0] == "0" and word != "0":
        raise NoNumber("a number has no nought ahead")
    return int(word)


def new_name(word):
    if not is_made_of(word, LETTERS, MOST_LETTERS):
        raise NoName("a name has one to eight small letters")
    return word


def clan_of(word, names):
    if word not in names:
        raise NoName("no clan has this name")
    return names.index(word)


def value_of(kind, word, names):
    if kind == "number":
        return number_of(word)
    if kind == "ratio":
        return read(word)
    if kind == "new":
        return new_name(word)
    return clan_of(word, names)


def values_of(words, names):
    form = form_of(words)
    check_form(words, form)
    values = words[1:]
    for kind in KINDS:
        for place, own in enumerate(form):
            if own == kind:
                values[place] = value_of(kind, words[place + 1], names)
    return values
