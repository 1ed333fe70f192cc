"""The least hours of the ways over a line."""

from surerails.errors import NoWay
from surerails.lines import check_box


def lag(line, source, target, *, late=False):
    """Gives the least sum of the lows (late: of the highs) of a way, or None."""
    check_box(line, source)
    check_box(line, target)
    return _sums_to(target, _costs(line, late)).get(source)


def lag_way(line, source, target, *, late=False):
    """Lists the boxes of a way with the least sum: of several ways, the least list."""
    check_box(line, source)
    check_box(line, target)
    costs = _costs(line, late)
    sums = _sums_to(target, costs)
    if source not in sums:
        raise NoWay(source, target)
    return _least_way(source, target, costs, sums)


def round_trip(line, box):
    """Gives the hours after which an answer surely comes at the latest, with its way, or None."""
    check_box(line, box)
    costs = _costs(line, True)
    sums = _sums_to(box, costs)
    trips = [
        (cost + sums[then], then) for (source, then), cost in costs.items() if source == box and then in sums
    ]
    if not trips:
        return None
    hours, then = min(trips)
    return (hours, [box] + _least_way(then, box, costs, sums))


def _costs(line, late):
    """Gives the hours of each wire that count; late, an unbounded wire does not count."""
    if late:
        return {(source, target): high for source, target, _, high in line.wires() if high is not None}
    return {(source, target): low for source, target, low, _ in line.wires()}


def _sums_to(target, costs):
    """Gives the least sum to the target from each box that has a way there."""
    sums = {target: 0}
    grown = True
    while grown:
        grown = False
        for (source, then), cost in costs.items():
            if then in sums and (source not in sums or sums[then] + cost < sums[source]):
                sums[source] = sums[then] + cost
                grown = True
    return sums


def _least_way(source, target, costs, sums):
    """Goes from box to box, always to the least one over which the least sum is reached."""
    way = [source]
    while way[-1] != target:
        here = way[-1]
        way.append(min([
            then for (start, then), cost in costs.items()
            if start == here and then in sums and sums[then] + cost == sums[here]
        ]))
    return way
