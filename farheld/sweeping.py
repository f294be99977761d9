"""Sweeps over spans (place, (low, high)) of whole numbers, from end to end."""


def events_of(spans):
    """Return the unlike ends in ascending order, and by end the places that begin and those that end there."""
    begins, ends = {}, {}
    for place, (low, high) in spans:
        begins.setdefault(low, []).append(place)
        ends.setdefault(high, []).append(place)
    return (sorted(set(list(begins) + list(ends))), begins, ends)


def walk_slabs(spans):
    """Yield ((low, high), ascending places) for each stretch between neighbouring ends that spans cover."""
    stops, begins, ends = events_of(spans)
    active = {}
    for at, stop in enumerate(stops[:-1]):
        for place in ends.get(stop, []):
            del active[place]
        for place in begins.get(stop, []):
            active[place] = True
        if active:
            yield ((stop, stops[at + 1]), sorted(active))
