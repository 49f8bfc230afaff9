"""Shells: commands to a bench, and their answers, as texts."""

from frankmarks.errors import BadText, FrankError
from frankmarks.forms import best, worth
from frankmarks.lies import lie
from frankmarks.papers import stand, useful
from frankmarks.texts import integer_of, menu_text, parse_belief, parse_row

_DIGITS = 20
_UNKNOWN = "unknown command"


def _read_whole(text):
    return None if text.startswith("-") else integer_of(text, _DIGITS)


def _read_number(text):
    return integer_of(text, _DIGITS)


def _read_row(text):
    try:
        return parse_row(text)
    except BadText:
        return None


def _read_belief(text):
    try:
        return parse_belief(text)
    except BadText:
        return None


def _put(bench, row):
    return f"ok {bench.put(row)}"


def _drop(bench, word):
    return f"ok {bench.drop(word)}"


def _mark(bench, word, answer, number):
    return f"ok {bench.mark(word, answer, number)}"


def _shift(bench, row):
    return f"ok {bench.shift(row)}"


def _undo(bench):
    return f"ok {bench.undo()}"


def _menu(bench):
    return menu_text(bench.menu_at())


def _edits(bench):
    return str(len(bench.edits()))


def _useful(bench):
    return menu_text(useful(bench.menu_at()))


def _stand(bench, word):
    return stand(bench.menu_at(), word)[0]


def _stands(bench):
    return " ".join(bench.stands_at())


def _worth(bench, belief):
    return _fraction_text(worth(bench.menu_at(), belief))


def _best(bench, belief):
    return " ".join([str(word) for word in best(bench.menu_at(), belief)])


def _lie(bench, word, said):
    found = lie(bench.menu_at(), word, said)
    if found is None:
        return "none"
    return " ".join([_fraction_text(loss) for loss, _ in found])


def _fraction_text(number):
    top, bottom = number
    return f"{top}/{bottom}"


_READERS = {"N": _read_whole, "M": _read_number, "ROW": _read_row, "BELIEF": _read_belief}

_FORMS = {
    "put": ("ROW",),
    "drop": ("N",),
    "mark": ("N", "N", "M"),
    "shift": ("ROW",),
    "undo": (),
    "menu": (),
    "edits": (),
    "useful": (),
    "stand": ("N",),
    "stands": (),
    "worth": ("BELIEF",),
    "best": ("BELIEF",),
    "lie": ("N", "N"),
}

_ACTIONS = {
    "put": _put,
    "drop": _drop,
    "mark": _mark,
    "shift": _shift,
    "undo": _undo,
    "menu": _menu,
    "edits": _edits,
    "useful": _useful,
    "stand": _stand,
    "stands": _stands,
    "worth": _worth,
    "best": _best,
    "lie": _lie,
}


def _read_all(name, texts):
    # What the texts behind the name of a command say; None if there is no such command.
    if name not in _FORMS or len(_FORMS[name]) != len(texts):
        return None
    given = []
    for kind, text in zip(_FORMS[name], texts):
        reader = _READERS[kind]
        given.append(reader(text))
    return None if None in given else given


class Shell:
    """Commands to one bench."""

    def __init__(self, bench):
        self._bench = bench

    def __call__(self, value):
        """Do the command, and return its answer."""
        if not isinstance(value, str):
            return _UNKNOWN
        words = value.split(" ")
        given = _read_all(words[0], words[1:])
        if given is None:
            return _UNKNOWN
        action = _ACTIONS[words[0]]
        try:
            return action(self._bench, *given)
        except FrankError as error:
            return "error " + error.__class__.__name__
