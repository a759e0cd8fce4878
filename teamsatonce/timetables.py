"""Timetables: how many teams can begin in some times, and when.

Here ways is a list with the ways to go on for each mask of the row: pairs of how many teams begin (1 or 0) and
the new mask's place, a beginning first.
"""


def best_way(mask_ways, most_behind):
    """The way with the most beginnings in all, if behind each mask as many follow as most_behind tells.

    Of several it is the first one, the one with a beginning.
    """
    return max(mask_ways, key=lambda way: way[0] + most_behind[way[1]])


def most_from(mask_ways, most_behind):
    way = best_way(mask_ways, most_behind)
    return way[0] + most_behind[way[1]]


def most_begun(ways, times):
    """For each number of times, from 0 up to this one, a row: how many teams begin in them at most, from each mask."""
    rows = [[0 for mask_ways in ways]]
    for done in range(times):
        rows.append([most_from(mask_ways, rows[done]) for mask_ways in ways])
    return rows


def told_timetable(ways, h):
    """Of the timetables with the most teams the first: at each time a team begins if that still leaves the most."""
    most = most_begun(ways, h)
    timetable = []
    place = 0
    for time in range(h + 1):
        way = best_way(ways[place], most[h - time])
        if way[0] == 1:
            timetable.append(time)
        place = way[1]
    return timetable
