"""Books of preferences between words, and whether they come of marks."""

from frankmarks.books import book_answers, book_words, is_cutting, triple_pairs, word_pairs
from frankmarks.bounds import MAX_ANSWERS, MAX_BOOK
from frankmarks.cones import corners_of
from frankmarks.errors import BadBelief, NoWord, TooFew, TooMany
from frankmarks.exact import common_divisor, difference, dot, is_integer, primitive
from frankmarks.forms import is_belief_for, is_word
from frankmarks.stretches import fit, free_stretches, share, stretched_rows


def _is_border(value):
    if not isinstance(value, tuple) or not 2 <= len(value) <= MAX_ANSWERS:
        return False
    if not all([is_integer(item) for item in value]):
        return False
    if is_cutting(value):
        return common_divisor(value) == 1
    return min(value) >= -1 and max(value) <= 1


def book_error(value):
    """Return None for a book, otherwise the place of what is wrong (or None) and its kind."""
    if not isinstance(value, tuple):
        return (None, "book")
    fitting = [words for words in range(2, MAX_BOOK + 1) if len(word_pairs(words)) == len(value)]
    if not fitting:
        return (None, "book")
    for index, pair in enumerate(word_pairs(fitting[0])):
        kind = _triple_error(value, index, pair)
        if kind is not None:
            return (index, kind)
    return None


def _triple_error(value, index, pair):
    item = value[index]
    if not isinstance(item, tuple) or len(item) != 3:
        return "triple"
    if not is_integer(item[0]) or not is_integer(item[1]) or item[:2] != pair:
        return "words"
    if not _is_border(item[2]):
        return "border"
    return None if len(item[2]) == len(value[0][2]) else "answers"


def is_book(value):
    """Tell whether value is a book."""
    return book_error(value) is None


def _sign(number):
    return (number > 0) - (number < 0)


def _border_of(one, other):
    # The border of two rows, with marks of any size.
    apart = difference(one, other)
    if is_cutting(apart):
        return primitive(apart)
    return tuple([_sign(item) for item in apart])


def _book_of_rows(rows):
    pairs = word_pairs(len(rows))
    return tuple([(one, other, _border_of(rows[one], rows[other])) for one, other in pairs])


def book_of(menu):
    """Return the book of the borders of the rows of the menu."""
    if len(menu) < 2:
        raise TooFew()
    if len(menu) > MAX_BOOK:
        raise TooMany(MAX_BOOK)
    return _book_of_rows(menu)


def same_book(one, other):
    """Tell whether the books of two menus are equal."""
    return book_of(one) == book_of(other)


def _need_word(book, word):
    if not is_word(book_words(book), word):
        raise NoWord(word)


def _need_belief(book, belief):
    if not is_belief_for(book_answers(book), belief):
        raise BadBelief(belief)


def _toward(book, one, other):
    # The border of two words, turned such that it speaks for the first one; a word and itself are even.
    for low, high, border in book:
        if (low, high) == (one, other):
            return border
        if (low, high) == (other, one):
            return tuple([-item for item in border])
    return tuple([0 for _ in range(book_answers(book))])


def says(book, one, other, belief):
    """Return 1 if one is preferred to other at the belief, -1 if other to one, otherwise 0."""
    _need_word(book, one)
    _need_word(book, other)
    _need_belief(book, belief)
    return _preferred(book, one, other, belief)


def _preferred(book, one, other, belief):
    return _sign(dot(_toward(book, one, other), belief))


def _threes(words):
    return [(one, other, last) for one, other in word_pairs(words) for last in range(other + 1, words)]


def order_at(book, belief):
    """Return ("order", groups), the preferred ones first, or ("round", words)."""
    _need_belief(book, belief)
    words = list(range(book_words(book)))
    signs = [[_preferred(book, one, other, belief) for other in words] for one in words]
    for three in _threes(len(words)):
        if not _are_in_order(signs, three):
            return ("round", three)
    ahead = [len([sign for sign in signs[word] if sign < 0]) for word in words]
    groups = [tuple([word for word in words if ahead[word] == many]) for many in sorted(set(ahead))]
    return ("order", tuple(groups))


def _are_in_order(signs, three):
    for one in three:
        for other in three:
            for last in three:
                if signs[one][other] >= 0 and signs[other][last] >= 0 and signs[one][last] < 0:
                    return False
    return True


def find_round(book):
    """Return a belief and three words that go round there, None if there are none."""
    for one, other, last in _threes(book_words(book)):
        for words in ((one, other, last), (one, last, other)):
            belief = _round_belief(book, words)
            if belief is not None:
                return (belief,) + words
    return None


def _steps(book, words):
    # The borders of each word and the next one, of the last one and the first one.
    one, other, last = words
    return [_toward(book, one, other), _toward(book, other, last), _toward(book, last, one)]


def _round_belief(book, words):
    # If any belief has such a round, a corner of the set where no next word is preferred has one.
    steps = _steps(book, words)
    for belief in corners_of(book_answers(book), steps):
        if max([dot(step, belief) for step in steps]) > 0:
            return belief
    return None


def round_holds(book, value):
    """Tell whether value is what find_round may return where there is a round."""
    if not isinstance(value, tuple) or len(value) != 4:
        return False
    belief = value[0]
    words = value[1:]
    if not is_belief_for(book_answers(book), belief):
        return False
    if not all([is_word(book_words(book), word) for word in words]) or len(set(words)) != 3:
        return False
    sums = [dot(step, belief) for step in _steps(book, words)]
    return min(sums) >= 0 and max(sums) > 0


def find_marks(book):
    """Return ("marks", rows) or ("balance", triples)."""
    kind, found = fit(book)
    if kind == "marks":
        return ("marks", stretched_rows(book, found))
    return ("balance", tuple([(low, high, vector) for (low, high), vector in found]))


def marks_holds(book, value):
    """Tell whether value is what find_marks may return."""
    if not isinstance(value, tuple) or len(value) != 2 or not isinstance(value[1], tuple):
        return False
    if value[0] == "marks":
        return _have_book(book, value[1])
    return value[0] == "balance" and _are_triples(book, value[1]) and _are_balancing(book, value[1])


def _are_integers(value, many):
    return isinstance(value, tuple) and len(value) == many and all([is_integer(item) for item in value])


def _have_book(book, rows):
    if len(rows) != book_words(book):
        return False
    if not all([_are_integers(row, book_answers(book)) for row in rows]):
        return False
    return _book_of_rows(rows) == book


def _are_triples(book, triples):
    if not all([isinstance(item, tuple) and len(item) == 3 for item in triples]):
        return False
    if not all([_are_integers(item[:2], 2) for item in triples]):
        return False
    if not all([_are_integers(item[2], book_answers(book)) for item in triples]):
        return False
    given = [item[:2] for item in triples]
    allowed = triple_pairs(book_words(book))
    return all([pair in allowed for pair in given]) and all([low < high for low, high in zip(given, given[1:])])


def _are_balancing(book, triples):
    sums = []
    for one, other, border in book:
        got = _received(book, triples, (one, other))
        products = [item * gift for item, gift in zip(border, got)]
        sums = sums + ([sum(products)] if is_cutting(border) else products)
    return min(sums) >= 0 and max(sums) > 0


def _received(book, triples, pair):
    # What the vectors give to the border of the pair, in all.
    given = [(share(pair, (low, high)), vector) for low, high, vector in triples]
    return [sum([times * vector[at] for times, vector in given]) for at in range(book_answers(book))]


def freedom(book):
    """Return how many rows that have the book are independent, None if no rows have it."""
    if fit(book)[0] == "balance":
        return None
    return free_stretches(book)
