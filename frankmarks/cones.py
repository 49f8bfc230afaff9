"""Corners of the sets of beliefs that rows of integers cut out.

A belief is kept beside its zeros, an integer with one bit for each condition that holds there without
any room: that an item is from 0 on (the first bits, one an answer), that a row has a sum from 0 on.
"""

from frankmarks.exact import dot, primitive


def corners_of(answers, rows):
    """Return, ascending, the corners of the set of the beliefs at which no row has a sum below 0."""
    kept = [_sure_of(answers, answer) for answer in range(answers)]
    for number, row in enumerate(rows):
        kept = _cut(kept, row, 1 << (answers + number))
    return tuple(sorted([belief for belief, _ in kept]))


def _sure_of(answers, answer):
    belief = tuple([1 if place == answer else 0 for place in range(answers)])
    zeros = sum([1 << place for place in range(answers) if place != answer])
    return (belief, zeros)


def _cut(corners, row, bit):
    # The corners of what is left: those with a sum from 0 on, and one on each edge that the row cuts.
    heights = [dot(row, belief) for belief, _ in corners]
    kept = []
    for (belief, zeros), height in zip(corners, heights):
        if height > 0:
            kept.append((belief, zeros))
        if height == 0:
            kept.append((belief, zeros | bit))
    for high, above in enumerate(heights):
        for low, below in enumerate(heights):
            if above > 0 > below and _share_an_edge(corners, high, low):
                belief = _crossing(corners[high][0], above, corners[low][0], below)
                kept.append((belief, (corners[high][1] & corners[low][1]) | bit))
    return kept


def _share_an_edge(corners, high, low):
    # The conditions that have no room at both leave more than an edge if a third corner meets them all.
    common = corners[high][1] & corners[low][1]
    for place, (_, zeros) in enumerate(corners):
        if zeros & common == common and place != high and place != low:
            return False
    return True


def _crossing(high, above, low, below):
    return primitive([above * item - below * other for item, other in zip(low, high)])
