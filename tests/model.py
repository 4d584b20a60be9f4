"""What the document says, done step by step and moment by moment, for the tests to compare with.

It shares nothing with the package but ways, rules and books as they are handed in."""

MARKS = ("read", "written", "changed")
CHOICES = [("read",), ("written",), ("changed",), ("read", "written"), ("read", "changed"), ("written", "changed"), MARKS]


def marks_after(rule, marks, deed, at):
    """The marks behind a deed; marks are those ahead of it, None if it makes the file."""
    word = deed[0]
    back = deed[1] if len(deed) == 2 else 0
    marks = dict(marks) if marks is not None else {}
    if word in ("make", "touch"):
        return {"read": at, "written": at, "changed": at}
    if word == "unpack":
        return {"read": at, "written": at - back, "changed": at}
    if word == "setback":
        return {"read": at - back, "written": at - back, "changed": at}
    if word == "write":
        marks["written"] = marks["changed"] = at
    if word == "rename":
        marks["changed"] = at
    if word == "read":
        seldom = rule.word == "seldom" and (
            marks["read"] <= marks["written"] or marks["read"] <= marks["changed"] or at - marks["read"] >= rule.after)
        if rule.word == "always" or seldom:
            marks["read"] = at
    return marks


def marks_at(way, rule, row, at):
    """The marks at a moment behind all steps up to it."""
    nodes = way.nodes()
    marks = None
    for node, moment in row:
        if moment <= at:
            marks = marks_after(rule, marks, nodes[node], moment)
    return marks


def arrow_at(way, row, at):
    """The arrow between the steps around a moment, None behind the last step."""
    for (node, moment), (goal, then) in zip(row, row[1:]):
        if moment <= at < then:
            return [arrow for arrow in way.arrows() if arrow[:2] == (node, goal)][0]
    return None


def deletes(way, rule, book, row, at):
    """Whether a look at a moment deletes the file that the row brings."""
    arrow = arrow_at(way, row, at)
    if book.spares and arrow is not None and arrow[4] == "held":
        return False
    marks = marks_at(way, rule, row, at)
    latest = max(marks[mark] - marks[mark] % book.grain for mark in book.looks)
    days = (at - latest) // book.day
    return days > book.bound if book.how == "above" else days >= book.bound


def rows_of(way, many, start=0, most=None):
    """All rows of just many steps, in order; arrows without a greatest time have most for one."""
    found = [((node, start),) for node, deed in enumerate(way.nodes()) if deed[0] in ("make", "unpack")]
    for step in range(many - 1):
        found = [row + ((arrow[1], row[-1][1] + time),) for row in found for arrow in way.arrows()
                 if arrow[0] == row[-1][0] for time in range(arrow[2], (arrow[3] or most) + 1)]
    return found


def lives_of(way, many, start=0, most=None):
    """All lives of just many steps."""
    words = {arrow[:2]: arrow[4] for arrow in way.arrows()}
    return [row for row in rows_of(way, many, start, most)
            if all(words[one[0], other[0]] != "anew" for one, other in zip(row, row[1:]))]


def faults_of(way, rule, book, many, most=None):
    """All faults of rows of at most many steps that begin below the grain, in order."""
    found = []
    for steps in range(2, many + 1):
        for start in range(book.grain):
            for row in rows_of(way, steps, start, most):
                found.extend(faults_of_row(way, rule, book, row))
    return found


def faults_of_row(way, rule, book, row):
    moments = range(row[0][1], row[-1][1])
    used = {at: arrow_at(way, row, at)[4] != "anew" for at in moments}
    gone = {at: deletes(way, rule, book, row, at) for at in moments}
    return [(row, at, then) for at in moments if gone[at] for then in range(at, min(at + book.late, row[-1][1] - 1) + 1)
            if used[then] and (gone[then] or not book.again)]


def first_states(way, rule):
    """The pairs (node, ages of the three marks) of all lives of one step."""
    return {(node, ages_of(marks_after(rule, None, deed, 0))) for node, deed in enumerate(way.nodes())
            if deed[0] in ("make", "unpack")}


def next_states(way, rule, cap, states):
    """The pairs of all lives that have one step more; ages of cap and more are cap."""
    nodes, arrows = way.nodes(), way.arrows()
    found = set()
    for node, ages in states:
        for start, goal, least, most, word in arrows:
            if start == node and word != "anew":
                for time in range(min(least, cap), min(most or cap, cap) + 1):
                    marks = {mark: -age - time for mark, age in zip(MARKS, ages)}
                    ages_then = ages_of(marks_after(rule, marks, nodes[goal], 0))
                    found.add((goal, tuple(min(age, cap) for age in ages_then)))
    return found


def ages_of(marks):
    return tuple(-marks[mark] for mark in MARKS)


def states_of(way, rule, cap):
    """The pairs of all lives, of any number of steps."""
    found = states = first_states(way, rule)
    while states:
        states = next_states(way, rule, cap, states) - found
        found = found | states
    return found


def latest_age(ages, looks):
    return min(ages[MARKS.index(mark)] for mark in looks)


def counts(book, arrow):
    """Whether an arrow counts for a book."""
    return {"": True, "held": not book.spares, "anew": book.late > 0 and not book.again}[arrow[4]]


def seen_by_states(way, book, states, cap):
    """The greatest seen age ahead of arrows that count; ages of cap and more count as endless."""
    found = [-1]
    for node, ages in states:
        age = latest_age(ages, book.looks)
        for arrow in way.arrows():
            if arrow[0] == node and counts(book, arrow):
                if arrow[3] is None or age >= cap:
                    return None
                found.append(age + arrow[3] - 1 + book.grain - 1)
    return max(found)


def fewest_steps(way, rule, book, cap, most=60):
    """The fewest steps of a row with a fault, None if all have more than most."""
    layers = [first_states(way, rule)]
    needed = book.threshold() - book.grain + 2
    for steps in range(2, most + 1):
        for arrow in way.arrows():
            behind = steps - 2 - (arrow[4] == "anew")
            if counts(book, arrow) and behind >= 0:
                ages = [latest_age(ages, book.looks) for node, ages in layers[behind] if node == arrow[0]]
                if ages and (arrow[3] is None or max(ages) + arrow[3] >= needed):
                    return steps
        layers.append(next_states(way, rule, cap, layers[-1]))
    return None
