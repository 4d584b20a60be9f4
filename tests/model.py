"""What the document says, done step by step and moment by moment, for the tests to compare with.

It shares nothing with the package but ways, rules and books as they are handed in."""

MARKS = ("read", "written", "changed")
CHOICES = [("read",), ("written",), ("changed",), ("read", "written"), ("read", "changed"), ("written", "changed"), MARKS]


def marks_after(rule, marks, deed, at):
    """The marks behind a deed; marks are those ahead of it, None if it makes the file."""
    word = deed[0]
    back = deed[1] if len(deed) == 2 else 0
    marks = dict(marks) if marks is not None else {}
    if word in ("make", "touch"):
        return {"read": at, "written": at, "changed": at}
    if word == "unpack":
        return {"read": at, "written": at - back, "changed": at}
    if word == "setback":
        return {"read": at - back, "written": at - back, "changed": at}
    if word == "write":
        marks["written"] = marks["changed"] = at
    if word == "rename":
        marks["changed"] = at
    if word == "read":
        seldom = rule.word == "seldom" and (
            marks["read"] <= marks["written"] or marks["read"] <= marks["changed"] or at - marks["read"] >= rule.after)
        if rule.word == "always" or seldom:
            marks["read"] = at
    return marks


def marks_at(way, rule, row, at):
    """The marks at a moment behind all steps up to it."""
    nodes = way.nodes()
    marks = None
    for node, moment in row:
        if moment <= at:
            marks = marks_after(rule, marks, nodes[node], moment)
    return marks


def arrow_at(way, row, at):
    """The arrow between the steps around a moment, None behind the last step."""
    for (node, moment), (goal, then) in zip(row, row[1:]):
        if moment <= at < then:
            return [arrow for arrow in way.arrows() if arrow[:2] == (node, goal)][0]
    return None


def deletes(way, rule, book, row, at):
    """Whether a look at a moment deletes the file that the row brings."""
    arrow = arrow_at(way, row, at)
    if book.spares and arrow is not None and arrow[4] == "held":
        return False
    marks = marks_at(way, rule, row, at)
    latest = max(marks[mark] - marks[mark] % book.grain for mark in book.looks)
    days = (at - latest) // book.day
    return days > book.bound if book.how == "above" else days >= book.bound


def rows_of(way, many, start=0, most=None):
    """All rows of just many steps, in order; arrows without a greatest time have most for one."""
    found = [((node, start),) for node, deed in enumerate(way.nodes()) if deed[0] in ("make", "unpack")]
    for step in range(many - 1):
        found = [row + ((arrow[1], row[-1][1] + time),) for row in found for arrow in way.arrows()
                 if arrow[0] == row[-1][0] for time in range(arrow[2], (arrow[3] or most) + 1)]
    return found


def lives_of(way, many, start=0, most=None):
    """All lives of just many steps."""
    words = {arrow[:2]: arrow[4] for arrow in way.arrows()}
    return [row for row in rows_of(way, many, start, most)
            if all(words[one[0], other[0]] != "anew" for one, other in zip(row, row[1:]))]


def faults_of(way, rule, book, many, most=None):
    """All faults of rows of at most many steps that begin below the grain, in order."""
    found = []
    for steps in range(2, many + 1):
        for start in range(book.grain):
            for row in rows_of(way, steps, start, most):
                found.extend(faults_of_row(way, rule, book, row))
    return found


def faults_of_row(way, rule, book, row):
    moments = range(row[0][1], row[-1][1])
    used = {at: arrow_at(way, row, at)[4] != "anew" for at in moments}
    gone = {at: deletes(way, rule, book, row, at) for at in moments}
    return [(row, at, then) for at in moments if gone[at] for then in range(at, min(at + book.late, row[-1][1] - 1) + 1)
            if used[then] and (gone[then] or not book.again)]


def first_states(way, rule):
    """The pairs (node, ages of the three marks) of all lives of one step."""
    return {(node, ages_of(marks_after(rule, None, deed, 0))) for node, deed in enumerate(way.nodes())
            if deed[0] in ("make", "unpack")}


def next_states(way, rule, cap, states):
    """The pairs of all lives that have one step more; ages of cap and more are cap."""
    nodes, arrows = way.nodes(), way.arrows()
    found = set()
    for node, ages in states:
        for start, goal, least, most, word in arrows:
            if start == node and word != "anew":
                for time in range(min(least, cap), min(most or cap, cap) + 1):
                    marks = {mark: -age - time for mark, age in zip(MARKS, ages)}
                    ages_then = ages_of(marks_after(rule, marks, nodes[goal], 0))
                    found.add((goal, tuple(min(age, cap) for age in ages_then)))
    return found


def ages_of(marks):
    return tuple(-marks[mark] for mark in MARKS)


def states_of(way, rule, cap):
    """The pairs of all lives, of any number of steps."""
    found = states = first_states(way, rule)
    while states:
        states = next_states(way, rule, cap, states) - found
        found = found | states
    return found


def latest_age(ages, looks):
    return min(ages[MARKS.index(mark)] for mark in looks)


def counts(book, arrow):
    """Whether an arrow counts for a book."""
    return {"": True, "held": not book.spares, "anew": book.late > 0 and not book.again}[arrow[4]]


def seen_by_states(way, book, states, cap):
    """The greatest seen age ahead of arrows that count; ages of cap and more count as endless."""
    found = [-1]
    for node, ages in states:
        age = latest_age(ages, book.looks)
        for arrow in way.arrows():
            if arrow[0] == node and counts(book, arrow):
                if arrow[3] is None or age >= cap:
                    return None
                found.append(age + arrow[3] - 1 + book.grain - 1)
    return max(found)


def fewest_steps(way, rule, book, cap, most=60):
    """The fewest steps of a row with a fault, None if all have more than most."""
    layers = [first_states(way, rule)]
    needed = book.threshold() - book.grain + 2
    for steps in range(2, most + 1):
        for arrow in way.arrows():
            behind = steps - 2 - (arrow[4] == "anew")
            if counts(book, arrow) and behind >= 0:
                ages = [latest_age(ages, book.looks) for node, ages in layers[behind] if node == arrow[0]]
                if ages and (arrow[3] is None or max(ages) + arrow[3] >= needed):
                    return steps
        layers.append(next_states(way, rule, cap, layers[-1]))
    return None


def stays_of(way, rule, book, many, most=None):
    """All times from the last deeds of the lives of at most many steps to their being deleted."""
    found = set()
    for start in range(book.grain):
        for row in [row for steps in range(1, many + 1) for row in lives_of(way, steps, start, most)]:
            for phase in range(book.period):
                found |= stays_of_life(way, rule, book, row, phase)
    return found


def stays_of_life(way, rule, book, row, phase):
    """The times from the last deed of a life to its being deleted, for looks of a phase."""
    last = at = row[-1][1]
    while at % book.period != phase or not deletes(way, rule, book, row, at):
        at += 1
    # Nothing is done any more: a second look finds the file as the first one did.
    return {then - last for then in range(at, at + book.late + 1) if not book.again or deletes(way, rule, book, row, then)}


def is_right(way, rule, book, paper, far=200):
    """Whether a paper whose form is right is right; ages of far and more are taken for one, and so for no end."""
    word, ages, reads = paper
    sets = {node: {n for low, high in pairs for n in range(low, far + 1 if high is None else high + 1)} for node, pairs in reads}
    return (all(is_right_age(way, rule, ages, sets, row) for row in ages)
            and all(is_right_read(way, rule, sets, node, far) for node in sets)
            and all(arrow[3] is not None and any(
                start == arrow[0] and set(some) <= set(book.looks) and m + arrow[3] - 1 + book.grain - 1 < book.threshold()
                for start, some, m in ages) for arrow in way.arrows() if counts(book, arrow)))


def is_right_age(way, rule, ages, sets, row):
    node, looks, n = row
    deed = way.nodes()[node]
    back = deed[1] if len(deed) == 2 else 0
    hit = {"make": {"read": 0, "written": 0, "changed": 0}, "touch": {"read": 0, "written": 0, "changed": 0},
           "write": {"written": 0, "changed": 0}, "rename": {"changed": 0},
           "unpack": {"read": 0, "written": back, "changed": 0}, "setback": {"read": back, "written": back, "changed": 0},
           "read": {"read": 0} if rule.word == "always" else {}}[deed[0]]
    rest = set(looks) - set(hit)
    if any(n >= hit[mark] for mark in looks if mark in hit):
        return True
    if deed[0] == "read" and rule.word == "seldom" and "read" in looks and node in sets and max(sets[node]) <= n:
        return True
    return deed[0] not in ("make", "unpack") and rest != set() and all(
        arrow[3] is not None and any(start == arrow[0] and set(some) <= rest and m + arrow[3] <= n for start, some, m in ages)
        for arrow in way.arrows() if arrow[1] == node and arrow[4] != "anew")


def is_right_read(way, rule, sets, node, far):
    for start, goal, least, most, word in way.arrows():
        if goal == node and way.nodes()[start] != ("read",):
            if 0 not in sets[node]:
                return False
        elif goal == node:
            if start not in sets:
                return False
            sums = {age + time for age in sets[start] for time in range(min(least, far), min(most or far, far) + 1)}
            if not {n for n in sums if n < rule.after} <= sets[node]:
                return False
            if any(n >= rule.after for n in sums) and 0 not in sets[node]:
                return False
    return True
