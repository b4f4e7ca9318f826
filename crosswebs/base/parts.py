"""Classes of members that hang together, walks that come round, choices of indices, and sums by keys."""


def labels_of(many, pairs):
    """By members, from 0 on, the least one that hangs together with it by the pairs."""
    labels = list(range(many))
    for one, other in pairs:
        low, high = sorted([labels[one], labels[other]])
        if low != high:
            labels = [low if label == high else label for label in labels]
    return labels


def classes_of(many, pairs):
    """The ascending tuple of the ascending tuples of members that hang together by the pairs."""
    labels = labels_of(many, pairs)
    return tuple([tuple([part for part in range(many) if labels[part] == least]) for least in sorted(set(labels))])


def count_classes(many, pairs):
    """The number of classes of members that hang together by the pairs."""
    return len(set(labels_of(many, pairs)))


def walk_from(steps, first):
    """What comes by the steps, one after the other, until the first one would come again."""
    walk = [first]
    while steps[walk[-1]] != first:
        walk.append(steps[walk[-1]])
    return tuple(walk)


def walks_of(steps):
    """The ascending tuple of all walks by the steps, each from its least member on."""
    walks = []
    passed = {}
    for first in sorted(steps):
        if first not in passed:
            walk = walk_from(steps, first)
            walks.append(walk)
            for part in walk:
                passed[part] = True
    return tuple(walks)


def each_choice(many, chosen=()):
    """The ascending tuples of indices below a number that begin with those chosen, ascending."""
    yield chosen
    first = chosen[-1] + 1 if chosen else 0
    for index in range(first, many):
        longer = chosen + (index,)
        yield from each_choice(many, longer)


def sums_of(one, other):
    """By the keys of two dicts of integers, the sums of what they have there, some of them perhaps 0."""
    sums = {key: one[key] for key in one}
    for key in other:
        sums[key] = sums.get(key, 0) + other[key]
    return sums
