"""What the document asks of evidence, said again in fractions, and the errors' objects."""

import itertools
import math
import unittest
from fractions import Fraction

from frankmarks.errors import BadBelief, NoWord, Unlike
from odd_values import ODD_VALUES


def average(row, belief):
    return sum((mark * Fraction(item, sum(belief)) for mark, item in zip(row, belief)), Fraction(0))


def averages(menu, belief):
    return [average(row, belief) for row in menu]


def pair_of(number):
    return (number.numerator, number.denominator)


def is_whole(value):
    return type(value) is int


def is_tuple(value, many):
    return type(value) is tuple and len(value) == many


def is_said(value, *words):
    return type(value) is str and value in words


def belief_right(answers, value):
    return (is_tuple(value, answers) and all(is_whole(item) and item >= 0 for item in value)
            and math.gcd(*value) == 1)


def weights_right(words, value):
    if type(value) is not tuple or not value:
        return False
    for item in value:
        if not (is_tuple(item, 2) and is_whole(item[0]) and is_whole(item[1]) and item[1] > 0 and item[0] in words):
            return False
    given = [item[0] for item in value]
    return given == sorted(given) and len(set(given)) == len(given)


def mixed(menu, weights):
    """The marks on the average, if a word is drawn by these weights."""
    total = sum(weight for _, weight in weights)
    return [sum(Fraction(weight * menu[word][at], total) for word, weight in weights) for at in range(len(menu[0]))]


def others(menu, word):
    return [other for other in range(len(menu)) if other != word]


def lone_right(menu, word, belief):
    if not belief_right(len(menu[0]), belief):
        return False
    worths = averages(menu, belief)
    return all(worths[word] > worths[other] for other in others(menu, word))


def best_right(menu, word, belief):
    if not belief_right(len(menu[0]), belief):
        return False
    worths = averages(menu, belief)
    return worths[word] == max(worths)


def covered(menu, words, row, weights):
    return weights_right(words, weights) and all(a >= b for a, b in zip(mixed(menu, weights), row))


def topped(menu, words, row, weights):
    return weights_right(words, weights) and all(a > b for a, b in zip(mixed(menu, weights), row))


def stand_right(menu, word, value):
    if not is_tuple(value, 2) or not is_said(value[0], "alone", "shut"):
        return False
    if value[0] == "alone":
        return lone_right(menu, word, value[1])
    return covered(menu, others(menu, word), menu[word], value[1])


def reach_right(menu, word, value):
    if not is_tuple(value, 2) or not is_said(value[0], "best", "never"):
        return False
    if value[0] == "best":
        return best_right(menu, word, value[1])
    return topped(menu, others(menu, word), menu[word], value[1])


def lead(one, other, belief):
    """How much more one is worth than other."""
    return max(averages(one, belief)) - max(averages(other, belief))


def apart_right(one, other, value):
    return (is_tuple(value, 2) and is_said(value[0], "apart") and belief_right(len(one[0]), value[1])
            and lead(one, other, value[1]) != 0)


def under_right(one, other, value):
    if not is_tuple(value, 2) or not is_said(value[0], "above", "under"):
        return False
    if value[0] == "above":
        return belief_right(len(one[0]), value[1]) and lead(one, other, value[1]) > 0
    words = list(range(len(other)))
    return is_tuple(value[1], len(one)) and all(
        covered(other, words, row, weights) for row, weights in zip(one, value[1])
    )


def tops(menu):
    return [max(marks) for marks in zip(*menu)]


def calm_right(menu, value):
    if not is_tuple(value, 3):
        return False
    loss, weights, belief = value
    if not (is_tuple(loss, 2) and is_whole(loss[0]) and is_whole(loss[1]) and loss[1] > 0 and math.gcd(*loss) == 1):
        return False
    if not weights_right(list(range(len(menu))), weights) or not belief_right(len(menu[0]), belief):
        return False
    risk = max(top - mark for top, mark in zip(tops(menu), mixed(menu, weights)))
    return risk == Fraction(*loss) == average(tops(menu), belief) - max(averages(menu, belief))


def shape(book):
    """The number of words and of answers of a book."""
    return max(max(i, j) for i, j, _ in book) + 1, len(book[0][2])


def preference(book, one, other, belief):
    for i, j, border in book:
        total = sum(item * share for item, share in zip(border, belief))
        if (i, j) == (one, other):
            return total
        if (j, i) == (one, other):
            return -total
    return 0


def round_right(book, value):
    words, answers = shape(book)
    if not is_tuple(value, 4) or not belief_right(answers, value[0]):
        return False
    if not all(is_whole(word) and 0 <= word < words for word in value[1:]) or len(set(value[1:])) < 3:
        return False
    belief, i, j, k = value
    steps = [preference(book, i, j, belief), preference(book, j, k, belief), preference(book, k, i, belief)]
    return min(steps) >= 0 and any(steps)


def in_order(book, three, belief):
    def no_worse(one, other):
        return preference(book, one, other, belief) >= 0

    return all(no_worse(a, c) or not (no_worse(a, b) and no_worse(b, c)) for a, b, c in itertools.permutations(three))


def marks_right(book, value):
    words, answers = shape(book)
    if not is_tuple(value, 2) or not is_said(value[0], "marks", "balance") or type(value[1]) is not tuple:
        return False
    if value[0] == "balance":
        return balance_right(book, words, answers, value[1])
    if len(value[1]) != words:
        return False
    for row in value[1]:
        if not is_tuple(row, answers) or not all(is_whole(mark) for mark in row):
            return False
    return all(has_border(value[1][i], value[1][j], border) for i, j, border in book)


def has_border(one, other, border):
    apart = [mark - less for mark, less in zip(one, other)]
    signs = [(item > 0) - (item < 0) for item in apart]
    if signs != [(item > 0) - (item < 0) for item in border]:
        return False
    if min(signs) >= 0 or max(signs) <= 0:
        return True
    return all(apart[a] * border[b] == apart[b] * border[a] for a in range(len(apart)) for b in range(a))


def balance_right(book, words, answers, triples):
    seen = []
    for item in triples:
        if not is_tuple(item, 3) or not is_whole(item[0]) or not is_whole(item[1]) or not 0 < item[0] < item[1] < words:
            return False
        if not is_tuple(item[2], answers) or not all(is_whole(number) for number in item[2]):
            return False
        seen.append(item[:2])
    if seen != sorted(seen) or len(set(seen)) != len(seen):
        return False
    got = {(i, j): [0] * answers for i, j, _ in book}
    for j, k, vector in triples:
        for at, number in enumerate(vector):
            got[(0, j)][at] += number
            got[(j, k)][at] += number
            got[(0, k)][at] -= number
    amounts = []
    for i, j, border in book:
        products = [item * number for item, number in zip(border, got[(i, j)])]
        amounts += [sum(products)] if min(border) < 0 < max(border) else products
    return all(amount >= 0 for amount in amounts) and any(amounts)


def independent(rows):
    """The rank of rows of numbers, by fractions."""
    rows = [[Fraction(item) for item in row] for row in rows]
    count = 0
    for at in range(len(rows[0]) if rows else 0):
        pivot = next((row for row in rows[count:] if row[at]), None)
        if pivot is None:
            continue
        rows.remove(pivot)
        rows.insert(count, pivot)
        for number in range(count + 1, len(rows)):
            factor = rows[number][at] / pivot[at]
            rows[number] = [item - factor * less for item, less in zip(rows[number], pivot)]
        count += 1
    return count


def bad_words(words):
    """Values that are no word where there are so many."""
    return ODD_VALUES + (
        words, words + 1, -words, True, False, "0", "1", (0,), (0, 1), [0], {"0": 0}, None, 10 ** 5000, -10 ** 5000,
    )


def bad_beliefs(answers):
    """Values that are no belief for so many answers."""
    huge = 10 ** 5000
    return ODD_VALUES + (
        (2,) * answers, (0,) * answers, (1,) * (answers + 1), (1,) * (answers - 1), (-1,) + (1,) * (answers - 1),
        (1,) * (answers - 1) + (True,), (False,) + (1,) * (answers - 1), [1] * answers, (0,) * (answers - 1) + (2,),
        (huge,) * answers, (1,) * (answers - 1) + ("1",), (1,) * (answers - 1) + (None,), "1:" * (answers - 1) + "1",
    )


class Refusing(unittest.TestCase):
    def assert_given(self, error, given, call, *arguments):
        """The call raises the error, and the error keeps the very object."""
        with self.assertRaises(error) as caught:
            call(*arguments)
        self.assertIs(type(caught.exception), error)
        self.assertIs(caught.exception.given, given)

    def assert_no_word(self, given, call, *arguments):
        self.assert_given(NoWord, given, call, *arguments)

    def assert_bad_belief(self, given, call, *arguments):
        self.assert_given(BadBelief, given, call, *arguments)

    def assert_unlike(self, call, *arguments):
        with self.assertRaises(Unlike) as caught:
            call(*arguments)
        self.assertIs(type(caught.exception), Unlike)
