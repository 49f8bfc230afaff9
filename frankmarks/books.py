"""The words, answers and borders of books of preferences."""


def word_pairs(words):
    """Return the pairs of words, the lesser one first, ascending."""
    return [(one, other) for one in range(words) for other in range(one + 1, words)]


def triple_pairs(words):
    """Return the pairs of words above 0, the lesser one first, ascending: each makes a triple with 0."""
    return [(one, other) for one, other in word_pairs(words) if one > 0]


def book_words(book):
    """Return the number of words of a book."""
    return book[-1][1] + 1


def book_answers(book):
    """Return the number of answers of a book."""
    return len(book[0][2])


def is_cutting(border):
    """Tell whether a border has items below and above 0."""
    return min(border) < 0 < max(border)
