"""Acts: which props they read and write, which of them clash, and what they do."""

SET = 0
ADD = 1
COPY = 2
EXCHANGE = 3
LOOK = 4


class Act:
    """One act: its kind, its props p and q, its value v, and the props that it reads and writes."""

    def __init__(self, kind, p, q, v):
        self.kind = kind
        self.p = p
        self.q = q
        self.v = v
        self.reads = props_read(kind, p, q)
        self.writes = props_written(kind, p, q)


def props_read(kind, p, q):
    if kind == SET:
        return []
    if kind == EXCHANGE:
        return [p, q]
    return [p]


def props_written(kind, p, q):
    if kind == LOOK:
        return []
    if kind == COPY:
        return [q]
    if kind == EXCHANGE:
        return [p, q]
    return [p]


def props_meant(act):
    """The props that must be there for the act; of the other kinds q means nothing."""
    if act.kind == COPY or act.kind == EXCHANGE:
        return [act.p, act.q]
    return [act.p]


def share_a_prop(props, others):
    return any([prop in others for prop in props])


def clash(act, other):
    if share_a_prop(act.writes, other.reads) or share_a_prop(act.writes, other.writes):
        return True
    return share_a_prop(other.writes, act.reads)


def values_after(act, values):
    """The props' values behind the act, as a new list: other orders go on from the old one."""
    after = list(values)
    if act.kind == SET:
        after[act.p] = act.v
    elif act.kind == ADD:
        after[act.p] = (values[act.p] + act.v) % 10
    elif act.kind == COPY:
        after[act.q] = values[act.p]
    elif act.kind == EXCHANGE:
        after[act.p] = values[act.q]
        after[act.q] = values[act.p]
    return after


def finding(act, values):
    """What a look finds."""
    return 1 if values[act.p] == act.v else 0
