"""Paths between numbered places, no two of which have a place in common."""

BEGIN = ("begin", 0)
END = ("end", 0)


def paths_from(leads, starts):
    """Return a dict with a list of as few places as possible, from a start on, for each place that one can reach.

    leads has for each place the places to which one can go from there.
    """
    paths = {start: [start] for start in starts}
    last = list(starts)
    while last:
        reached = []
        for place in last:
            for other in leads[place]:
                if other not in paths:
                    paths[other] = paths[place] + [other]
                    reached.append(other)
        last = reached
    return paths


def disjoint_paths(starts, leads, ends):
    """Return a tuple (paths, places): as many paths as possible from a start to an end, no two of which
    have a place in common, and an ascending list of as many places, which meets all paths there are.

    leads has for each place the places to which one can go from there.
    """
    room = _rooms(starts, leads, ends)
    reached = _reached(room)
    while END in reached:
        _fill(room, reached[END])
        reached = _reached(room)
    paths = [_path_from(room, leads, start) for start in starts if _is_filled(room, BEGIN, ("in", start))]
    return (paths, [place for place in sorted(list(leads)) if _is_cut(reached, place)])


def _rooms(starts, leads, ends):
    """Return a dict of dicts that tells how many paths more may lead from each knot to each other one.

    A place is two knots, and one path leads from its "in" to its "out"; elsewhere there is room for all paths.
    """
    many = len(leads) + 1
    pairs = [(BEGIN, ("in", start), many) for start in starts]
    pairs += [(("out", end), END, many) for end in ends]
    pairs += [(("in", place), ("out", place), 1) for place in leads]
    pairs += [(("out", place), ("in", other), many) for place in leads for other in leads[place]]
    room = {BEGIN: {}, END: {}}
    for place in leads:
        room[("in", place)] = {}
        room[("out", place)] = {}
    for one, other, free in pairs:
        room[one][other] = free
        room[other][one] = 0
    return room


def _reached(room):
    """Return what paths_from returns of the knots, from BEGIN on, where there is room."""
    free = {one: [other for other in led if led[other] > 0] for one, led in room.items()}
    return paths_from(free, [BEGIN])


def _fill(room, knots):
    # What is filled may be emptied again: there is room for as much in the contrary direction.
    for one, other in zip(knots, knots[1:]):
        room[one][other] -= 1
        room[other][one] += 1


def _is_filled(room, one, other):
    return room[other].get(one, 0) > 0


def _path_from(room, leads, start):
    path = [start]
    while not _is_filled(room, ("out", path[-1]), END):
        here = ("out", path[-1])
        path.append([other for other in leads[path[-1]] if _is_filled(room, here, ("in", other))][0])
    return path


def _is_cut(reached, place):
    return ("in", place) in reached and ("out", place) not in reached
