"""Sums of columns of integers, each taken a number of times from 0 on, that reach a target.

This is the simplex method in integers, one place of the target after another. The labels from 0 on are
the columns, those behind them what is missing at the places. A line is an equation for one label, which
is inside: the last item times its number and the other items but the last but one times the numbers of
the labels outside, in their order, are together the last but one.
"""

from math import lcm

from frankmarks.exact import primitive


def solve(columns, target):
    """Tell how columns make up the target, or why they do not.

    Return ("sum", counts, times), integers from 0 on and one from 1 on, such that the sum of the columns,
    each multiplied by its count, is the target multiplied by times; or, if there are none,
    ("against", vector): the sum of its products is from 0 on with each column, and below 0 with the target.
    """
    many = len(columns)
    table = []
    inside = []
    outside = list(range(many))
    for number, goal in enumerate(target):
        line = _stated([column[number] for column in columns], goal, table, inside, outside)
        table, inside, outside = _settled(table + [line], inside + [many + number], outside, many)
        if inside and inside[-1] >= many:
            return ("against", _against(table[-1], inside[-1], outside, many, len(target)))
    return _sum(table, inside, many)


def _stated(equation, goal, table, inside, outside):
    # The equation of one place, the labels inside put out of it by the lines that tell of them.
    many = len(equation)
    used = [(equation[label], line) for label, line in zip(inside, table) if equation[label] != 0]
    times = 1
    for _, line in used:
        times = lcm(times, line[-1])
    items = [times * equation[label] if label < many else 0 for label in outside] + [times * goal]
    for factor, line in used:
        share = factor * (times // line[-1])
        items = [item - share * part for item, part in zip(items, line)]
    return _turned_up(primitive(items + [times]), outside, many)


def _turned_up(line, outside, many):
    # What is missing is counted from 0 on; if nothing is, any label that the line tells of may come in.
    if line[-2] < 0 or (line[-2] == 0 and _entering(line, outside, many) is None):
        return [-item for item in line]
    return line


def _settled(table, inside, outside, many):
    """Make the last line tell of a column.

    It is left out if it tells of none and nothing is missing, and stays as it is if something always is.
    """
    missing = inside[-1]
    while inside[-1] == missing:
        place = _entering(table[-1], outside, many)
        if place is None:
            return (table, inside, outside) if table[-1][-2] > 0 else (table[:-1], inside[:-1], outside)
        at = _leaving(table, inside, place)
        table = _exchanged(table, at, place)
        label = outside[place]
        outside = outside[:place] + [inside[at]] + outside[place + 1:]
        inside = inside[:at] + [label] + inside[at + 1:]
    return (table, inside, outside)


def _entering(line, outside, many):
    # Always the least label: the greatest item would be quicker at times, but could go round in circles.
    chosen = None
    for place, label in enumerate(outside):
        if label < many and line[place] > 0 and (chosen is None or label < outside[chosen]):
            chosen = place
    return chosen


def _leaving(table, inside, place):
    chosen = len(table) - 1
    for at, line in enumerate(table):
        if line[place] > 0 and _goes_before(table, inside, place, at, chosen):
            chosen = at
    return chosen


def _goes_before(table, inside, place, one, other):
    # Of two that are used up together the last line goes, so that it is done, or else the lesser label.
    first = table[one][-2] * table[other][place]
    second = table[other][-2] * table[one][place]
    if first == second and other < len(table) - 1:
        return inside[one] < inside[other]
    return first < second


def _exchanged(table, at, place):
    turned = list(table[at])
    turned[place] = table[at][-1]
    turned[-1] = table[at][place]
    return [turned if number == at else _without(line, table[at], place) for number, line in enumerate(table)]


def _without(line, chosen, place):
    # The line with what the chosen one says put in for the label at the place.
    factor = line[place]
    if factor == 0:
        return line
    items = [item * chosen[place] - factor * part for item, part in zip(line, chosen)]
    items[place] = -factor * chosen[-1]
    items[-1] = line[-1] * chosen[place]
    return primitive(items)


def _sum(table, inside, many):
    times = 1
    for line in table:
        times = lcm(times, line[-1])
    counts = [0 for _ in range(many)]
    for label, line in zip(inside, table):
        counts[label] = line[-2] * (times // line[-1])
    return ("sum", counts, times)


def _against(line, missing, outside, many, places):
    # The line is a sum of equations: how often each is taken stands beside what is missing at its place.
    shares = [0 for _ in range(places)]
    for label, item in zip(outside + [missing], line[:-2] + line[-1:]):
        if label >= many:
            shares[label - many] = -item
    return shares
