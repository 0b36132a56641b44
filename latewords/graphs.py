"""What can be reached in a graph, and ways that come back to where they began.

A graph is given as pairs (from, to), or as arcs (from, to, worth); what these lead between may be any keys of a dict.
"""


def reached(pairs, starts):
    """Return a dict that has as keys what can be reached from some starts, the starts included."""
    targets = {}
    for source, target in pairs:
        targets.setdefault(source, []).append(target)
    found = {start: True for start in starts}
    waiting = list(starts)
    while waiting:
        source = waiting.pop()
        for target in targets.get(source, []):
            if target not in found:
                found[target] = True
                waiting.append(target)
    return found


def has_cycle(pairs):
    """Tell whether pairs form a cycle."""
    left = list(pairs)
    while left:
        sources = {source: True for source, target in left}
        # What leads to where nothing goes on is in no cycle.
        lasting = [(source, target) for source, target in left if target in sources]
        if len(lasting) == len(left):
            return True
        left = lasting
    return False


def arcs_by_source(arcs):
    """Return a dict from what arcs begin at to the list of them."""
    found = {}
    for arc in arcs:
        found.setdefault(arc[0], []).append(arc)
    return found


def returns(arcs, start, most):
    """Return the ways from a start back to it with 1 to so many arcs as tuples (sum of the worths, arcs).

    There is one for each number of arcs for which there is any, and it has the greatest sum.
    """
    by_source = arcs_by_source(arcs)
    found = []
    best = {start: (0, [])}
    for _ in range(most):
        best = one_arc_on(by_source, best)
        if start in best:
            found.append(best[start])
    return found


def one_arc_on(by_source, best):
    """Return for each end of a way with one arc more the (sum, arcs) with the greatest sum."""
    found = {}
    for at, (total, way) in best.items():
        for arc in by_source.get(at, []):
            source, target, worth = arc
            if target not in found or total + worth > found[target][0]:
                found[target] = (total + worth, way + [arc])
    return found
