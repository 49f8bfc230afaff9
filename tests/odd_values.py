"""Values that are no rows, menus, beliefs, words or texts, whatever is asked of them."""


def nested(levels):
    value = (1, 2)
    for _ in range(levels):
        value = (value,)
    return value


ODD_VALUES = (
    None,
    True,
    False,
    -1,
    10 ** 40,
    "",
    "x" * 10000,
    "9" * 10000,
    "\n",
    (),
    ((),),
    (((1, 2),),),
    ("1", "2"),
    "((1, 2),)",
    (None, None),
    ([1, 2], [3, 4]),
    ((1, 2), [3, 4]),
    [],
    [1, 2],
    [(1, 2), (3, 4)],
    {},
    {"0": 1, "1": 2},
    {"a": [{"b": (None, True)}]},
    (True, True),
    (1, True),
    (False, 1),
    (1, False),
    ((1, True), (0, 1)),
    ((1, 0), (False, 1)),
    (1, 2, 3, 4, 5, "6"),
    ({}, {}),
    tuple([0] * 2000),
    nested(18),
)
