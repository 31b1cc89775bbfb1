"""Changes: what can be kept of one turn of things in another, and the rules that lead from one to the other."""


def places_of(things):
    """For each thing its number in a list."""
    places = {}
    for place, thing in enumerate(things):
        places[thing] = place
    return places


def group_for(groups, places, thing):
    """The number of the first group whose last thing comes behind this one, or of a new group."""
    for at, group in enumerate(groups):
        if places[group[-1]] > places[thing]:
            return at
    return len(groups)


def kept_most(one, other):
    """The most things that come in one turn in both lists, and as many groups of which no two can both be kept."""
    places = places_of(other)
    groups = []
    ahead = {}
    for thing in one:
        at = group_for(groups, places, thing)
        if at == len(groups):
            groups.append([])
        # The last thing of the group ahead comes ahead of this one in both lists, so both can be kept.
        ahead[thing] = groups[at - 1][-1] if at > 0 else None
        groups[at].append(thing)
    kept = []
    last = groups[-1][-1] if groups else None
    while last is not None:
        kept.append(last)
        last = ahead[last]
    kept.reverse()
    return (kept, groups)


def change(one, other):
    """The rules that lead from one list of letters to another turn of them."""
    kept = kept_most(one, other)[0]
    moved = [letter for letter in one if letter not in kept]
    if not moved:
        return []
    return [("forget",) + tuple(moved), ("row",) + tuple(other)]
