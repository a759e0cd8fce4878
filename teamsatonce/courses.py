"""Courses: what comes of the props and the looks when an order is run."""

from teamsatonce.acts import LOOK, finding, values_after
from teamsatonce.orders import acts_together, teams_to_go_on


class Course:
    """An order as far as it is run: the props' values there, and for each team what its looks found.

    A course's lists are never changed: a longer course may share them.
    """

    def __init__(self, order, prop_values, found):
        self.order = order
        self.prop_values = prop_values
        self.found = found


def course_begun(start_values, teams):
    return Course([], start_values, [[] for acts in teams])


def course_with(course, teams, team):
    """The course that is longer by this team's next act."""
    act = teams[team][course.order.count(team)]
    order = course.order + [team]
    if act.kind == LOOK:
        found = list(course.found)
        found[team] = found[team] + [finding(act, course.prop_values)]
        return Course(order, course.prop_values, found)
    return Course(order, values_after(act, course.prop_values), course.found)


def course_of(start_values, teams, order):
    course = course_begun(start_values, teams)
    for team in order:
        course = course_with(course, teams, team)
    return course


def whole_courses(start_values, teams):
    """The courses of all whole orders, the least order first.

    They are grown together, so that what orders have in common at their beginning is run once.
    """
    courses = [course_begun(start_values, teams)]
    for done in range(acts_together(teams)):
        longer = []
        for course in courses:
            for team in teams_to_go_on(teams, course.order):
                longer.append(course_with(course, teams, team))
        courses = longer
    return courses


def end_told(course):
    """How the course ends, as one row. Each team's count stands before its looks, so unlike ends give unlike rows."""
    told = list(course.prop_values)
    for found in course.found:
        told.append(len(found))
        told.extend(found)
    return told


def is_won(course):
    return all([0 not in found for found in course.found])
