"""Lies: what a word costs where it is not the best one."""

from frankmarks.cells import corners
from frankmarks.exact import common_divisor, difference, dot, fraction, is_fraction, is_less
from frankmarks.forms import is_belief, need_belief, need_same_answers, need_word, total_worth
from frankmarks.weights import is_weights, mix, weight_sum, weights_at_least


def loss(menu, said, belief):
    """Return the loss of the word said at the belief, a fraction."""
    need_word(menu, said)
    need_belief(menu, belief)
    return _loss(menu, said, belief)


def _loss(menu, said, belief):
    return fraction(total_worth(menu, belief) - dot(menu[said], belief), sum(belief))


def lie(menu, word, said):
    """Return the least and the greatest loss of said in the cell of word, each with a corner, or None."""
    need_word(menu, word)
    need_word(menu, said)
    spots = [(_loss(menu, said, corner), corner) for corner in corners(menu, word)]
    if not spots:
        return None
    low = spots[0]
    high = spots[0]
    for spot in spots:
        if is_less(spot[0], low[0]):
            low = spot
        if is_less(high[0], spot[0]):
            high = spot
    return (low, high)


def _tops(menu):
    # The greatest mark for each answer.
    return [max([row[answer] for row in menu]) for answer in range(len(menu[0]))]


def greatest_loss(menu, said):
    """Return the greatest loss of said, an integer, and the least answer at which it is so great."""
    need_word(menu, said)
    losses = difference(_tops(menu), menu[said])
    most = max(losses)
    return (most, losses.index(most))


def steady(menu):
    """Return the least word whose greatest loss is least, and this loss."""
    losses = [greatest_loss(menu, word)[0] for word in range(len(menu))]
    least = min(losses)
    return (losses.index(least), least)


def calm(menu):
    """Return the least risk of weights, weights with this risk, and a belief that shows that none risk less."""
    belief = _dearest(menu)
    price = _answer_worth(menu, belief)
    # A mix that has at each answer at least the greatest mark less the price, all multiplied by its bottom.
    scaled = [tuple([mark * price[1] for mark in row]) for row in menu]
    wanted = [top * price[1] - price[0] for top in _tops(menu)]
    return (price, weights_at_least(scaled, list(range(len(menu))), wanted), belief)


def _dearest(menu):
    # The answer is worth most at a corner of a cell, because it goes straight over each cell.
    chosen = None
    for word in range(len(menu)):
        for belief in corners(menu, word):
            if chosen is None or is_less(_answer_worth(menu, chosen), _answer_worth(menu, belief)):
                chosen = belief
    return chosen


def _answer_worth(menu, belief):
    return fraction(dot(_tops(menu), belief) - total_worth(menu, belief), sum(belief))


def _risk(menu, weights):
    many = weight_sum(weights)
    most = max([top * many - mark for top, mark in zip(_tops(menu), mix(menu, weights))])
    return fraction(most, many)


def calm_holds(menu, value):
    """Tell whether value is what calm may return."""
    if not isinstance(value, tuple) or len(value) != 3:
        return False
    price, weights, belief = value
    if not is_fraction(price) or not is_weights(list(range(len(menu))), weights) or not is_belief(menu, belief):
        return False
    return _risk(menu, weights) == price and _answer_worth(menu, belief) == price


def _bottoms(menu):
    # The least mark for each answer.
    return [min([row[answer] for row in menu]) for answer in range(len(menu[0]))]


def _lowered(menu):
    # The menu with the least mark for each answer taken off, and the common divisor of what is left.
    bottoms = _bottoms(menu)
    rows = [difference(row, bottoms) for row in menu]
    return (rows, common_divisor([mark for row in rows for mark in row]))


def plain(menu):
    """Return the menu with 0 as the least mark for each answer, and without a common divisor."""
    rows, divisor = _lowered(menu)
    if divisor == 0:
        return tuple(rows)
    return tuple([tuple([mark // divisor for mark in row]) for row in rows])


def like(one, other):
    """Return the factor and the row that make other of one, None if there are none."""
    need_same_answers(one, other)
    if plain(one) != plain(other):
        return None
    factor = _factor(_lowered(one)[1], _lowered(other)[1])
    moves = [_move(factor, start, end) for start, end in zip(_bottoms(one), _bottoms(other))]
    return (factor, tuple(moves))


def _factor(one, other):
    # If both divisors are 0, all rows are equal, and any factor would do.
    return (1, 1) if one == 0 else fraction(other, one)


def _move(factor, start, end):
    # What is added to the factor times start, so that it is end.
    return fraction(end * factor[1] - start * factor[0], factor[1])
