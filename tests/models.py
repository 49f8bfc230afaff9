"""What the document says of edits and benches, said again in lists, and edits that are drawn, wrong or none."""

import drawn
from frankmarks.papers import stand
from judges import stand_right
from odd_values import ODD_VALUES

MARK = drawn.MARK


def whole(value):
    return type(value) is int


def is_index(value, many):
    return whole(value) and 0 <= value < many


def is_mark(value):
    return whole(value) and abs(value) <= MARK


def row_for(menu, value):
    return type(value) is tuple and len(value) == len(menu[0]) and all(is_mark(item) for item in value)


def edited(menu, edit):
    """Return (menu, None), or (None, name and fields of the error)."""
    kind, given = edit[0], edit[1:]
    if kind in ("put", "shift") and not row_for(menu, given[0]):
        return None, ("BadRow", given[0])
    if kind in ("drop", "mark") and not is_index(given[0], len(menu)):
        return None, ("NoWord", given[0])
    rows = [list(row) for row in menu]
    if kind == "put":
        if len(rows) == 8:
            return None, ("TooMany", 8)
        rows.append(list(given[0]))
    elif kind == "drop":
        if len(rows) == 1:
            return None, ("LastWord",)
        del rows[given[0]]
    elif kind == "mark":
        if not is_index(given[1], len(rows[0])):
            return None, ("NoAnswer", given[1])
        if not is_mark(given[2]):
            return None, ("BadMark", given[2])
        rows[given[0]][given[1]] = given[2]
    else:
        rows = [[mark + more for mark, more in zip(row, given[0])] for row in rows]
        if any(abs(mark) > MARK for row in rows for mark in row):
            return None, ("TooGreat",)
    return tuple(tuple(row) for row in rows), None


def first_shut(menu):
    """Return the first word that is nowhere the only best one, None if there is none."""
    for word in range(len(menu)):
        found = stand(menu, word)
        assert stand_right(menu, word, found)
        if found[0] == "shut":
            return word
    return None


class Model:
    """A bench as a list of menus and a list of edits."""

    def __init__(self, menu, frank=False):
        self.menus = [menu]
        self.edits = []
        self.frank = frank

    def do(self, edit):
        """Do the edit and return the number of those that stand, or return the name and fields of the error."""
        if len(self.edits) == 40:
            return ("TooManyEdits",)
        menu, error = edited(self.menus[-1], edit)
        if error is not None:
            return error
        if self.frank and first_shut(menu) is not None:
            return ("NotFrank", first_shut(menu))
        self.menus.append(menu)
        self.edits.append(edit)
        return len(self.edits)

    def undo(self):
        if not self.edits:
            return ("NothingToUndo",)
        self.menus.pop()
        self.edits.pop()
        return len(self.edits)


def right_edit(rng, menu, size):
    """Return a drawn edit that can be done."""
    while True:
        edit = any_edit(rng, menu, size)
        if edited(menu, edit)[1] is None:
            return edit


def any_edit(rng, menu, size):
    """Return a drawn edit that is not about odd values, but may be beyond a limit."""
    answers = len(menu[0])
    kind = rng.choice(("put", "drop", "mark", "shift"))
    if kind == "put":
        return (kind, rng.choice((drawn.row(rng, answers, size), rng.choice(menu))))
    if kind == "drop":
        return (kind, rng.randint(0, len(menu)))
    if kind == "mark":
        return (kind, rng.randint(-1, len(menu)), rng.randint(0, answers), rng.randint(-size, size))
    return (kind, drawn.row(rng, answers + rng.choice((0, 0, 0, 1)), rng.choice((1, size, MARK))))


def wrong_edits(menu):
    """Return edits of all kinds that cannot be done, each with its error; the menu has two answers and 4 words."""
    rows = [*ODD_VALUES, (1, 2, 3), (1,), [1, 2], (1, MARK + 1), (-MARK - 1, 0), (True, 0), "1,2", ((1, 2),), (1, "2")]
    words = [*ODD_VALUES, 4, 5, -1, -4, True, "0", (0,), 10 ** 5000]
    answers = [*ODD_VALUES, 2, -1, True, False, "1", (0,), 10 ** 5000]
    marks = [*ODD_VALUES, MARK + 1, -MARK - 1, True, "0", (0,), 10 ** 5000]
    marks = [value for value in marks if not is_mark(value)]
    found = [(kind, row) for kind in ("put", "shift") for row in rows]
    found += [("drop", word) for word in words]
    found += [("mark", word, answer, mark) for word in words for answer, mark in ((0, 0), (2, None), (0, MARK + 1))]
    found += [("mark", 3, answer, mark) for answer in answers for mark in (0, None, MARK + 1)]
    found += [("mark", 0, 1, mark) for mark in marks]
    found += [("shift", (MARK, 0)), ("shift", (0, -MARK))]
    pairs = [(edit, edited(menu, edit)[1]) for edit in found]
    return [(edit, error) for edit, error in pairs if error is not None]


NO_EDITS = ODD_VALUES + (
    ("put",), ("drop",), ("mark",), ("shift",), ("undo",), ("put", (1, 2), (1, 2)), ("drop", 0, 0), ("mark", 0, 0),
    ("mark", 0, 0, 0, 0), ("shift", (1, 2), 0), ["put", (1, 2)], ["drop", 0], ("Put", (1, 2)), ("put ", (1, 2)),
    ("", (1, 2)), ((), (1, 2)), (None, (1, 2)), (["put"], (1, 2)), ({}, (1, 2)), ((1, 2),), (1, 2), "put 1,2", "drop 0",
    ("attempt", ()), ("undo", None), ("put 1,2",), {"put": [1, 2]}, (("put", (1, 2)),), ("mark", (0, 0), 0),
    (b"drop", 0), ("menu_at", None), (0, "drop"), ("put", 1, 2), ("mark", 0, 0, 0, None),
)
