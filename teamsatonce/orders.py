"""Orders: whether they are whole or alike, their normal forms and levels.

Here teams is a list with a list of acts for each team. An act in an order is told by the pair of its
team's number and its own number within the team.
"""

from teamsatonce.acts import clash


def is_whole(teams, order):
    for team in order:
        if team >= len(teams):
            return False
    return all([order.count(team) == len(acts) for team, acts in enumerate(teams)])


def acts_in(order):
    return [(team, order[:place].count(team)) for place, team in enumerate(order)]


def hang_together(teams, one, other):
    if one[0] == other[0]:
        return True
    return clash(teams[one[0]][one[1]], teams[other[0]][other[1]])


def hangs_on_any(teams, act, others):
    return any([hang_together(teams, act, other) for other in others])


def are_alike(teams, order, other):
    """Whether two whole orders are alike. Both have the same acts, so each is found in the other."""
    acts = acts_in(order)
    other_acts = acts_in(other)
    for place, act in enumerate(acts):
        for later in acts[place + 1:]:
            if hang_together(teams, act, later) and other_acts.index(act) > other_acts.index(later):
                return False
    return True


def normal_form(teams, order):
    """The least order alike to this one: again and again the least act that hangs on none left before it.

    At most one act of a team is free at a time, so the least pair is the least team.
    """
    left = acts_in(order)
    form = []
    while left:
        free = [act for place, act in enumerate(left) if not hangs_on_any(teams, act, left[:place])]
        least = min(free)
        form.append(least[0])
        left.remove(least)
    return form


def hang_at(teams, order, place):
    """Whether the acts at this place and the next one hang on one another."""
    acts = acts_in(order)
    return hang_together(teams, acts[place], acts[place + 1])


def swapped(order, place):
    return order[:place] + [order[place + 1], order[place]] + order[place + 2:]


def levels_in(teams, order):
    acts = acts_in(order)
    levels = []
    for place, act in enumerate(acts):
        below = [levels[k] for k in range(place) if hang_together(teams, acts[k], act)]
        levels.append(max(below, default=0) + 1)
    return levels


def acts_together(teams):
    return sum([len(acts) for acts in teams])


def teams_to_go_on(teams, order):
    """The teams that have an act left behind this order, rising."""
    return [team for team, acts in enumerate(teams) if order.count(team) < len(acts)]


def keeps_normal(teams, form, team):
    """Whether a normal form stays one if this team's next act comes behind it.

    It doesn't just if the act could stand before one of a greater team: if it hangs neither on that one
    nor on any behind that one.
    """
    act = (team, form.count(team))
    for earlier in reversed(acts_in(form)):
        if hang_together(teams, earlier, act):
            return True
        if earlier[0] > team:
            return False
    return True


def normal_forms(teams):
    """All normal forms of whole orders. What begins a normal form is one too, so they are grown act by act."""
    forms = [[]]
    for done in range(acts_together(teams)):
        longer = []
        for form in forms:
            for team in teams_to_go_on(teams, form):
                if keeps_normal(teams, form, team):
                    longer.append(form + [team])
        forms = longer
    return forms
