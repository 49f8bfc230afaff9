"""Papers over all beliefs: what shows that a word is said, shut out or never best, and that menus are alike."""

from frankmarks.cells import corners, lone_belief
from frankmarks.exact import is_less
from frankmarks.forms import best, is_belief, need_same_answers, need_word, worth
from frankmarks.weights import is_at_least, is_beyond, is_weights, others_than, weights_at_least, weights_beyond


def _is_told(value, *kinds):
    # Whether value is a pair with one of these strings as its first item.
    return isinstance(value, tuple) and len(value) == 2 and value[0] in kinds


def stand(menu, word):
    """Return ("alone", belief) or ("shut", weights)."""
    belief = lone_belief(menu, word)
    if belief is not None:
        return ("alone", belief)
    return ("shut", weights_at_least(menu, others_than(menu, word), menu[word]))


def first_shut(menu):
    """Return the first word that others shut out, beside weights of them that do so, None if there is none."""
    for word in range(len(menu)):
        kind, found = stand(menu, word)
        if kind == "shut":
            return (word, found)
    return None


def stand_holds(menu, word, value):
    """Tell whether value is what stand may return."""
    need_word(menu, word)
    if not _is_told(value, "alone", "shut"):
        return False
    if value[0] == "alone":
        return is_belief(menu, value[1]) and best(menu, value[1]) == (word,)
    return is_weights(others_than(menu, word), value[1]) and is_at_least(menu, menu[word], value[1])


def reach(menu, word):
    """Return ("best", belief) or ("never", weights)."""
    found = corners(menu, word)
    if found:
        return ("best", found[0])
    return ("never", weights_beyond(menu, others_than(menu, word), menu[word]))


def reach_holds(menu, word, value):
    """Tell whether value is what reach may return."""
    need_word(menu, word)
    if not _is_told(value, "best", "never"):
        return False
    if value[0] == "best":
        return is_belief(menu, value[1]) and word in best(menu, value[1])
    return is_weights(others_than(menu, word), value[1]) and is_beyond(menu, menu[word], value[1])


def useful(menu):
    """Return the rows that are somewhere the only best one, each once, ascending."""
    rows = tuple(sorted(set(menu)))
    return tuple([row for word, row in enumerate(rows) if lone_belief(rows, word) is not None])


def _above(one, other):
    # A belief at which one is worth more than other: there a row of one is better than all of other.
    for row in one:
        belief = lone_belief((row,) + other, 0)
        if belief is not None:
            return belief
    return None


def _is_above(one, other, belief):
    return is_less(worth(other, belief), worth(one, belief))


def compare(one, other):
    """Return ("alike",) or ("apart", belief)."""
    need_same_answers(one, other)
    for more, less in ((one, other), (other, one)):
        belief = _above(more, less)
        if belief is not None:
            return ("apart", belief)
    return ("alike",)


def compare_holds(one, other, value):
    """Tell whether value is what compare may return."""
    need_same_answers(one, other)
    if value == ("alike",):
        return compare(one, other) == value
    if not _is_told(value, "apart") or not is_belief(one, value[1]):
        return False
    return worth(one, value[1]) != worth(other, value[1])


def under(one, other):
    """Return ("above", belief) or ("under", papers)."""
    need_same_answers(one, other)
    belief = _above(one, other)
    if belief is not None:
        return ("above", belief)
    words = list(range(len(other)))
    return ("under", tuple([weights_at_least(other, words, row) for row in one]))


def under_holds(one, other, value):
    """Tell whether value is what under may return."""
    need_same_answers(one, other)
    if not _is_told(value, "above", "under"):
        return False
    if value[0] == "above":
        return is_belief(one, value[1]) and _is_above(one, other, value[1])
    return _are_papers(one, other, value[1])


def _are_papers(one, other, papers):
    if not isinstance(papers, tuple) or len(papers) != len(one):
        return False
    words = list(range(len(other)))
    if not all([is_weights(words, weights) for weights in papers]):
        return False
    return all([is_at_least(other, row, weights) for row, weights in zip(one, papers)])
