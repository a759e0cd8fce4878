"""Paths: the rooms that every team goes through, and with which differences of beginnings two teams meet.

A path is handed in as a list: for each room the room's number, then its stay.
"""


class Path:
    """A path: how many rooms it was told with, the room at each of its times, its forbidden differences, rising."""

    def __init__(self, numbers):
        self.room_count = len(numbers) // 2
        self.room_at = rooms_by_time(numbers)
        self.differences = forbidden_differences(self.room_at)


def length_of(numbers):
    return sum(numbers[1::2])


def rooms_by_time(numbers):
    rooms = []
    for k in range(0, len(numbers), 2):
        rooms.extend([numbers[k]] * numbers[k + 1])
    return rooms


def two_meet(room_at, difference):
    """Whether the team that began first is at some time where the later one is, which is less far by the difference."""
    return any([room_at[time] == room_at[time + difference] for time in range(len(room_at) - difference)])


def forbidden_differences(room_at):
    """Rising. With the path's length or more the first team is through before the next one begins."""
    return [difference for difference in range(1, len(room_at)) if two_meet(room_at, difference)]


def times_fit(differences, times):
    """Whether no two of the times differ by one of these; a time that stands twice is one time."""
    for time in times:
        for difference in differences:
            if time + difference in times:
                return False
    return True
