"""Rims, pieces and strings worked out otherwise than in the package, from tables of quadruples alone."""

from itertools import permutations


def joined_ends(crossings):
    """The pairs of joined ends."""
    places = {}
    for i, crossing in enumerate(crossings):
        for p, strand in enumerate(crossing):
            places.setdefault(strand, []).append((i, p))
    return [tuple(pair) for pair in places.values()]


def classes(members, pairs):
    """The classes of members that hang together by pairs, as a set of frozensets."""
    groups = {member: frozenset([member]) for member in members}
    for one, other in pairs:
        both = groups[one] | groups[other]
        for member in both:
            groups[member] = both
    return set(groups.values())


def all_ends(crossings):
    return [(i, p) for i in range(len(crossings)) for p in range(4)]


def rim_classes(crossings):
    """Along a strand the corner behind the one end and the corner ahead of the other end are of one rim."""
    pairs = []
    for (i, p), (k, r) in joined_ends(crossings):
        pairs += [((i, p), (k, (r - 1) % 4)), ((i, (p - 1) % 4), (k, r))]
    return classes(all_ends(crossings), pairs)


def string_classes(crossings):
    """The ends that each string passes."""
    through = [((i, p), (i, p + 2)) for i in range(len(crossings)) for p in (0, 1)]
    return classes(all_ends(crossings), joined_ends(crossings) + through)


def piece_classes(crossings):
    return classes(range(len(crossings)), [(one[0], other[0]) for one, other in joined_ends(crossings)])


def is_flat(crossings):
    """Whether each piece has the rims that it has on a ball."""
    rims = rim_classes(crossings)
    return all(sum(min(rim)[0] in piece for rim in rims) == len(piece) + 2 for piece in piece_classes(crossings))


def tables(many):
    """All tables of so many quadruples in which each strand stands twice, flat or not."""
    if many == 1:
        told = set(permutations((0, 0, 1, 1)))
    else:
        told = set(permutations((0, 0, 1, 1, 2, 2, 3, 3)))
    return [tuple(row[4 * i:4 * i + 4] for i in range(many)) for row in sorted(told)]


def renamed(crossings):
    """The crossings with strands numbered as they come first."""
    order = []
    for crossing in crossings:
        order += [strand for strand in crossing if strand not in order]
        order = sorted(set(order), key=order.index)
    return tuple(tuple(order.index(strand) for strand in crossing) for crossing in crossings)


def all_matchings(one, other):
    """All matchings of two tables of crossings, out of all ways to send crossings to crossings."""
    ends, many = all_ends(one), len(one)
    pairs = {frozenset(pair) for pair in joined_ends(one)}
    others = {frozenset(pair) for pair in joined_ends(other)}
    for order in permutations(range(many)):
        for number in range(2 ** many):
            told = tuple((order[i], 2 * ((number >> i) & 1)) for i in range(many))
            goes = {(i, p): (told[i][0], (p + told[i][1]) % 4) for i, p in ends}
            if {frozenset(goes[end] for end in pair) for pair in pairs} == others:
                yield told
