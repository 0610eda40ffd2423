"""The places that runs come to, by going through all runs with the path of each term that is taken."""


def parts_of(term):
    """The terms in a term, in order."""
    word = term[0]
    if word == "answer":
        return [pair[1] for pair in term[1]] + [term[2]]
    return list({"seq": term[1:], "or": term[1:], "and": term[1:], "case": term[1:], "call": term[2:], "scope": term[2:]}.get(word, ()))


def all_places(one):
    """The set of all places of a program."""
    found = set()

    def walk(name, path, term):
        found.add((name, path))
        for index, part in enumerate(parts_of(term)):
            walk(name, path + (index,), part)

    for name in one.names:
        walk(name, (), one[name].body)
    return found


def stood_at(one, place):
    """The term at a place."""
    term = one[place[0]].body
    for index in place[1]:
        term = parts_of(term)[index]
    return term


def after_step(one, left, mode):
    """The ways on behind a step: pairs of what is left and the mode."""
    (name, path, (blocks, heights, answers)), rest = left[-1], left[:-1]
    term = stood_at(one, (name, path))
    word = term[0]
    scene = (blocks, heights, answers)

    def inner(index, at=scene):
        return (name, path + (index,), at)

    if word == "do":
        return [] if term[2][mode] is None else [(rest, term[2][mode])]
    if word == "seq":
        return [(rest + tuple(inner(index) for index in range(len(term) - 2, -1, -1)), mode)]
    if word in ("or", "and"):
        return [(rest + (inner(index),), mode) for index in range(len(term) - 1)]
    if word == "case":
        return [(rest + (inner(mode),), mode)]
    if word == "run":
        return [(rest + (blocks[term[1]],), mode)]
    if word == "call":
        handed = {x: inner(index) for index, x in enumerate(one[term[1]].parameters)}
        return [(rest + ((term[1], (), (handed, {}, answers)),), mode)]
    if word == "scope":
        return [(rest + (inner(0, (blocks, {**heights, term[1]: len(rest)}, answers)),), mode)]
    if word == "exit":
        return [(rest[: heights[term[1]]], mode)]
    if word == "raise":
        return [(rest + (answers[term[1]],), mode)] if term[1] in answers else []
    more = {signal: inner(index) for index, (signal, _) in enumerate(term[1])}
    return [(rest + (inner(len(term[1]), (blocks, heights, {**answers, **more})),), mode)]


def footprints(one, most=400, steps=60):
    """The set of the places that runs come to, and whether all runs were gone through to their ends."""
    found, whole = set(), True
    ahead = [((("main", (), ({}, {}, {})),), mode, 0) for mode in range(one.modes)]
    tried = 0
    while ahead:
        left, mode, many = ahead.pop(0)
        while left and many < steps:
            found.add(left[-1][:2])
            ways = after_step(one, left, mode)
            many += 1
            if not ways:
                break
            for other, other_mode in ways[1:]:
                ahead.append((other, other_mode, many))
            left, mode = ways[0]
        whole = whole and not (left and many == steps)
        tried += 1
        if tried == most:
            return found, whole and not ahead
    return found, whole
