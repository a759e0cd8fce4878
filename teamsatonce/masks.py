"""Masks: the beginnings that lie so little back that they still matter, and the ways from mask to mask."""


def power_of_two(exponent):
    power = 1
    for done in range(exponent):
        power = power * 2
    return power


def masks_bound(path):
    """All masks are below this."""
    return power_of_two(len(path.room_at) - 1)


def barring_mask(path):
    """The beginnings that each by itself keep a team from beginning now."""
    return sum([power_of_two(difference - 1) for difference in path.differences])


def ways_from(path, mask):
    """The ways to go on, a beginning first: pairs of how many teams begin (1 or 0) and the new mask."""
    bound = masks_bound(path)
    ways = []
    if (mask & barring_mask(path)) == 0:
        ways.append((1, (2 * mask + 1) % bound))
    ways.append((0, (2 * mask) % bound))
    return ways


def masks_row(path):
    row = [0]
    place = 0
    while place < len(row):
        ways = ways_from(path, row[place])
        for begins, mask in ways:
            if mask not in row:
                row.append(mask)
        place = place + 1
    return row


def ways_by_place(path):
    """For each mask of the row its ways to go on, as ways_from tells them, but with the new mask's place in the row."""
    row = masks_row(path)
    places = dict([(mask, place) for place, mask in enumerate(row)])
    by_place = []
    for mask in row:
        by_place.append([(begins, places[new]) for begins, new in ways_from(path, mask)])
    return by_place
