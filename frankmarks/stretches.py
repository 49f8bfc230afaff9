"""The parts of the borders of a book, and the triples of words in which stretched parts have to fit.

A cutting border has one part, the border itself, a leaning one a part for each item other than 0, an
even one none. Marks of a book are its parts, each multiplied by a number above 0 of its own, such that
for any words 0 < j < k those of 0 and j and those of j and k together are those of 0 and k.
"""

from frankmarks.books import book_answers, book_words, is_cutting, triple_pairs
from frankmarks.exact import primitive, rank
from frankmarks.systems import solve


def _border_parts(border):
    if is_cutting(border):
        return [border]
    places = list(range(len(border)))
    return [tuple([border[at] if at == place else 0 for at in places]) for place in places if border[place] != 0]


def _parts(book):
    # Each part beside the pair of words whose border it is of.
    return [((one, other), part) for one, other, border in book for part in _border_parts(border)]


def share(pair, triple):
    """Return how often the vector of the triple of 0 and two words is given to the border of the pair."""
    if pair == triple or pair == (0, triple[0]):
        return 1
    return -1 if pair == (0, triple[1]) else 0


def _column(pair, part, triples):
    return [share(pair, triple) * item for triple in triples for item in part]


def _columns(book):
    # For each part of the book what it adds in all triples, answer by answer.
    triples = triple_pairs(book_words(book))
    return [_column(pair, part, triples) for pair, part in _parts(book)]


def fit(book):
    """Tell how the parts of the book are to be stretched so that they fit.

    Return ("marks", stretches) with an integer from 1 on for each part, or ("balance", vectors) with the
    pairs of a pair of words above 0 and its vector.
    """
    columns = _columns(book)
    triples = triple_pairs(book_words(book))
    answers = book_answers(book)
    # Each stretch is 1 and a number from 0 on, so these numbers have to make up for the ones.
    target = [-sum([column[place] for column in columns]) for place in range(len(triples) * answers)]
    found = solve(columns, target)
    if found[0] == "sum":
        return ("marks", [count + found[2] for count in found[1]])
    parts = [found[1][at * answers:(at + 1) * answers] for at in range(len(triples))]
    return ("balance", list(zip(triples, [tuple(part) for part in parts])))


def free_stretches(book):
    """Return how many stretches can be chosen freely, so long as their signs do not matter."""
    columns = _columns(book)
    return len(columns) - rank(columns)


def stretched_rows(book, stretches):
    """Return the rows that the stretches make, the first one all 0, without a common divisor."""
    answers = book_answers(book)
    marks = []
    for word in range(book_words(book)):
        steps = [(part, many) for (pair, part), many in zip(_parts(book), stretches) if pair == (0, word)]
        marks = marks + [-sum([part[answer] * many for part, many in steps]) for answer in range(answers)]
    if any(marks):
        marks = primitive(marks)
    return tuple([tuple(marks[at:at + answers]) for at in range(0, len(marks), answers)])
