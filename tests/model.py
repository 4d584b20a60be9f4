"""What the document says, done step by step and moment by moment, for the tests to compare with.

It shares nothing with the package but ways, rules and books as they are handed in."""

MARKS = ("read", "written", "changed")
CHOICES = [("read",), ("written",), ("changed",), ("read", "written"), ("read", "changed"), ("written", "changed"), MARKS]


def marks_after(rule, marks, deed, at):
    """The marks behind a deed; marks are those ahead of it, None if it makes the file."""
    word = deed[0]
    back = deed[1] if len(deed) == 2 else 0
    marks = dict(marks) if marks is not None else {}
    if word in ("make", "touch"):
        return {"read": at, "written": at, "changed": at}
    if word == "unpack":
        return {"read": at, "written": at - back, "changed": at}
    if word == "setback":
        return {"read": at - back, "written": at - back, "changed": at}
    if word == "write":
        marks["written"] = marks["changed"] = at
    if word == "rename":
        marks["changed"] = at
    if word == "read":
        seldom = rule.word == "seldom" and (
            marks["read"] <= marks["written"] or marks["read"] <= marks["changed"] or at - marks["read"] >= rule.after)
        if rule.word == "always" or seldom:
            marks["read"] = at
    return marks


def marks_at(way, rule, row, at):
    """The marks at a moment behind all steps up to it."""
    nodes = way.nodes()
    marks = None
    for node, moment in row:
        if moment <= at:
            marks = marks_after(rule, marks, nodes[node], moment)
    return marks


def arrow_at(way, row, at):
    """The arrow between the steps around a moment, None behind the last step."""
    for (node, moment), (goal, then) in zip(row, row[1:]):
        if moment <= at < then:
            return [arrow for arrow in way.arrows() if arrow[:2] == (node, goal)][0]
    return None


def deletes(way, rule, book, row, at):
    """Whether a look at a moment deletes the file that the row brings."""
    arrow = arrow_at(way, row, at)
    if book.spares and arrow is not None and arrow[4] == "held":
        return False
    marks = marks_at(way, rule, row, at)
    latest = max(marks[mark] - marks[mark] % book.grain for mark in book.looks)
    days = (at - latest) // book.day
    return days > book.bound if book.how == "above" else days >= book.bound


def rows_of(way, many, start=0, most=None):
    """All rows of just many steps, in order; arrows without a greatest time have most for one."""
    found = [((node, start),) for node, deed in enumerate(way.nodes()) if deed[0] in ("make", "unpack")]
    for step in range(many - 1):
        found = [row + ((arrow[1], row[-1][1] + time),) for row in found for arrow in way.arrows()
                 if arrow[0] == row[-1][0] for time in range(arrow[2], (arrow[3] or most) + 1)]
    return found


def lives_of(way, many, start=0, most=None):
    """All lives of just many steps."""
    words = {arrow[:2]: arrow[4] for arrow in way.arrows()}
    return [row for row in rows_of(way, many, start, most)
            if all(words[one[0], other[0]] != "anew" for one, other in zip(row, row[1:]))]


def faults_of(way, rule, book, many, most=None):
    """All faults of rows of at most many steps that begin below the grain, in order."""
    found = []
    for steps in range(2, many + 1):
        for start in range(book.grain):
            for row in rows_of(way, steps, start, most):
                found.extend(faults_of_row(way, rule, book, row))
    return found


def faults_of_row(way, rule, book, row):
    moments = range(row[0][1], row[-1][1])
    used = {at: arrow_at(way, row, at)[4] != "anew" for at in moments}
    gone = {at: deletes(way, rule, book, row, at) for at in moments}
    return [(row, at, then) for at in moments if gone[at] for then in range(at, min(at + book.late, row[-1][1] - 1) + 1)
            if used[then] and (gone[then] or not book.again)]
