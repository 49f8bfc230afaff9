"""Benches: menus that are changed by edits, which can be taken back."""

from frankmarks.bounds import MAX_BATCH, MAX_EDITS
from frankmarks.cells import lone_belief
from frankmarks.changes import edited, is_edit
from frankmarks.errors import (
    BadBatch, Busy, FrankError, NothingToUndo, NotFrank, NoVersion, NoWord, Rejected, TooManyEdits,
)
from frankmarks.exact import is_index
from frankmarks.forms import has_row, need_menu, need_word
from frankmarks.papers import compare, first_shut, stand
from frankmarks.texts import menu_text


def _need_frank(menu):
    found = first_shut(menu)
    if found is not None:
        raise NotFrank(found[0], found[1])


class Bench:
    """A menu that is changed by edits."""

    def __init__(self, value):
        need_menu(value)
        # The menus of all versions, and the edits between them: tuples, so that a copy may have the same ones.
        self._menus = (value,)
        self._edits = ()
        self._busy = False

    def _present(self):
        return self._menus[-1]

    def _need_idle(self):
        if self._busy:
            raise Busy()

    def _need_allowed(self, menu):
        """Raise an error if the bench must not have this menu; a plain one may have any."""

    def _do(self, edit):
        # An edit by itself or of a batch.
        if len(self._edits) >= MAX_EDITS:
            raise TooManyEdits()
        menu = edited(self._present(), edit)
        self._need_allowed(menu)
        self._menus = self._menus + (menu,)
        self._edits = self._edits + (edit,)
        return len(self._edits)

    def put(self, row):
        """Add the row behind the others, and return the number of edits that stand."""
        self._need_idle()
        return self._do(("put", row))

    def drop(self, word):
        """Take the row of the word out, and return the number of edits that stand."""
        self._need_idle()
        return self._do(("drop", word))

    def mark(self, word, answer, number):
        """Give the word this mark for the answer, and return the number of edits that stand."""
        self._need_idle()
        return self._do(("mark", word, answer, number))

    def shift(self, row):
        """Add the row to each row, and return the number of edits that stand."""
        self._need_idle()
        return self._do(("shift", row))

    def undo(self):
        """Take the last edit back, and return the number of edits that stand."""
        self._need_idle()
        if len(self._edits) == 0:
            raise NothingToUndo()
        self._menus = self._menus[:-1]
        self._edits = self._edits[:-1]
        return len(self._edits)

    def edits(self):
        """Return the edits that stand, the first one first."""
        return self._edits

    def attempt(self, batch, *, on_step=None):
        """Do all edits of the batch or none, and return the number of edits that stand.

        on_step, if it is not None, is called with the bench behind each edit.
        """
        self._need_idle()
        if not isinstance(batch, tuple) or len(batch) > MAX_BATCH:
            raise BadBatch()
        menus = self._menus
        edits = self._edits
        done = None
        self._busy = True
        try:
            self._do_batch(batch, on_step)
            done = True
        finally:
            # on_step may raise anything, so what it raises is not caught but passed by.
            self._busy = False
            if done is None:
                self._menus = menus
                self._edits = edits
        return len(self._edits)

    def _do_batch(self, batch, on_step):
        for index, edit in enumerate(batch):
            self._do_or_reject(index, edit)
            if on_step is not None:
                on_step(self)

    def _do_or_reject(self, index, edit):
        if not is_edit(edit):
            raise Rejected(index)
        try:
            self._do(edit)
        except FrankError:
            raise Rejected(index) from None

    def _is_version(self, value):
        return is_index(len(self._menus), value)

    def _menu_of(self, version):
        if version is None:
            return self._present()
        if not self._is_version(version):
            raise NoVersion(version)
        return self._menus[version]

    def menu_at(self, *, version=None):
        """Return the menu of the version, the present one for None."""
        return self._menu_of(version)

    def stands_at(self, *, version=None):
        """Return "alone" or "shut" for each word of the menu of the version, the present one for None."""
        menu = self._menu_of(version)
        return tuple([stand(menu, word)[0] for word in range(len(menu))])

    def compared(self, *, since=0, until=None):
        """Return what compare returns for the menus of two versions, until the present one for None."""
        if not self._is_version(since):
            raise NoVersion(since)
        return compare(self._menus[since], self._menu_of(until))

    def each_version(self):
        """Yield the pairs (version, menu), version 0 first."""
        for version, menu in enumerate(self._menus):
            yield (version, menu)

    def copy(self):
        """Return another bench with the same menu and edits."""
        return self._handed_to(Bench(self._menus[0]))

    def _handed_to(self, twin):
        twin._menus = self._menus
        twin._edits = self._edits
        return twin

    def __iadd__(self, other):
        self.put(other)
        return self

    def __isub__(self, other):
        self.drop(other)
        return self

    def __getitem__(self, index):
        need_word(self._present(), index)
        return self._present()[index]

    def __setitem__(self, pair, number):
        self._need_idle()
        if not isinstance(pair, tuple) or len(pair) != 2:
            raise NoWord(pair)
        self.mark(pair[0], pair[1], number)

    def __iter__(self):
        raise TypeError("a bench is not looped over")

    def __contains__(self, value):
        return has_row(self._present(), value)

    def __len__(self):
        return len(self._present())

    def __str__(self):
        return str(menu_text(self._present()))

    def __bool__(self):
        """Tell whether each word is the only best one at some belief."""
        return first_shut(self._present()) is None

    def __eq__(self, other):
        if not isinstance(other, Bench) or self.__class__.__name__ != other.__class__.__name__:
            return False
        return self._present() == other._present()


class FrankBench(Bench):
    """A bench each word of whose menu is the only best one at some belief."""

    def __init__(self, value):
        super().__init__(value)
        _need_frank(value)

    def _need_allowed(self, menu):
        """Raise NotFrank if a word of the menu is nowhere the only best one."""
        _need_frank(menu)

    @property
    def owns(self):
        """A belief for each word, in order, at which it is the only best one."""
        menu = self._present()
        return tuple([lone_belief(menu, word) for word in range(len(menu))])

    def copy(self):
        """Return another bench with the same menu and edits."""
        return self._handed_to(FrankBench(self._menus[0]))
