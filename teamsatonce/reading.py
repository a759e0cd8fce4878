"""Reading: one call out of the list of numbers that is handed in."""

# For each call's number: how many whole numbers it has, then how many rows.
SHAPES = (
    (0, 1),
    (0, 1),
    (0, 1),
    (0, 2),
    (0, 1),
    (0, 1),
    (0, 0),
    (0, 0),
    (0, 0),
    (4, 0),
    (2, 0),
    (1, 1),
    (0, 1),
    (0, 0),
    (1, 0),
    (0, 1),
    (0, 0),
    (0, 0),
    (2, 1),
    (0, 0),
)


class UnknownCall(ValueError):
    """The list has a call's number that stands for no call."""


class Call:
    """A call: its number, its whole numbers, its rows, and the place in the list right behind it."""

    def __init__(self, number, numbers, rows, behind):
        self.number = number
        self.numbers = numbers
        self.rows = rows
        self.behind = behind


def call_at(calls, place):
    number = calls[place]
    if number < 0 or number >= len(SHAPES):
        raise UnknownCall(f"there is no call {number}")
    shape = SHAPES[number]
    behind = place + 1 + shape[0]
    numbers = calls[place + 1:behind]
    rows = []
    for done in range(shape[1]):
        row_begin = behind + 1
        behind = row_begin + calls[behind]
        rows.append(calls[row_begin:behind])
    return Call(number, numbers, rows, behind)
