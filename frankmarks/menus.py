"""Menus as objects."""

from frankmarks.forms import has_row, need_menu, need_word, worth
from frankmarks.joins import both, either, times
from frankmarks.papers import compare, first_shut, under
from frankmarks.texts import menu_text


class Menu:
    """A menu that does not change."""

    def __init__(self, value):
        need_menu(value)
        self._rows = value

    @property
    def rows(self):
        """The menu itself, a tuple of rows."""
        return self._rows

    @property
    def answers(self):
        """The number of answers."""
        return len(self._rows[0])

    def __getitem__(self, index):
        need_word(self._rows, index)
        return self._rows[index]

    def __iter__(self):
        raise TypeError("a Menu is not looped over")

    def __contains__(self, value):
        return has_row(self._rows, value)

    def __len__(self):
        return len(self._rows)

    def __str__(self):
        return str(menu_text(self._rows))

    def __bool__(self):
        """Tell whether each word is the only best one at some belief."""
        return first_shut(self._rows) is None

    def __call__(self, belief):
        """Return the worth at the belief."""
        return worth(self._rows, belief)

    def __add__(self, other):
        if not isinstance(other, Menu):
            return NotImplemented
        return Menu(both(self._rows, other._rows))

    def __or__(self, other):
        if not isinstance(other, Menu):
            return NotImplemented
        return Menu(either(self._rows, other._rows))

    def __mul__(self, other):
        return Menu(times(self._rows, other))

    def __rmul__(self, other):
        return Menu(times(self._rows, other))

    def is_under(self, other):
        """Tell whether no belief makes this Menu worth more than the other one."""
        return under(self._rows, other.rows)[0] == "under"

    def is_alike(self, other):
        """Tell whether this Menu and the other one are worth the same at every belief."""
        return compare(self._rows, other.rows)[0] == "alike"

    def __eq__(self, other):
        return isinstance(other, Menu) and self._rows == other._rows
