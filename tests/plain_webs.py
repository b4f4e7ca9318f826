"""Lots, rings, trees and blocks of webs, worked out otherwise than in the package: out of all sets of ties."""

from functools import lru_cache
from itertools import combinations

from tests.plain import classes


def lots_of(many, ties):
    """The sets of places that hang together."""
    return classes(range(many), [tie[:2] for tie in ties])


def subsets(count):
    """All sets of indices below a number, as ascending tuples."""
    for size in range(count + 1):
        yield from combinations(range(count), size)


def is_ring(ties):
    """Whether one can go along these ties, each once, and come back, without coming to a place twice."""
    places = [place for tie in ties for place in tie[:2]]
    touched = sorted(set(places))
    if not ties or any(places.count(place) != 2 for place in touched):
        return False
    return len(classes(touched, [tie[:2] for tie in ties])) == 1


@lru_cache(maxsize=None)
def rings_of(ties):
    """All rings, as ascending tuples of indices."""
    return [subset for subset in subsets(len(ties)) if is_ring([ties[tie] for tie in subset])]


def blocks_of(ties):
    """The ties that are in one block, by all rings."""
    pairs = [(ring[0], tie) for ring in rings_of(ties) for tie in ring]
    return tuple(sorted(tuple(sorted(block)) for block in classes(range(len(ties)), pairs)))


def bridges_of(many, ties):
    """The ties without which there are more lots."""
    lots = len(lots_of(many, ties))
    return tuple(tie for tie in range(len(ties)) if len(lots_of(many, ties[:tie] + ties[tie + 1:])) > lots)


@lru_cache(maxsize=None)
def trees_of(many, ties):
    """All joining trees, ascending: sets of ties without a ring by which all places hang together."""
    rings = [set(ring) for ring in rings_of(ties)]
    return [subset for subset in combinations(range(len(ties)), many - 1)
            if len(lots_of(many, [ties[tie] for tie in subset])) == 1 and not any(ring <= set(subset) for ring in rings)]


def ring_with(ties, tree, tie):
    """The ring of a tie and of ties of a tree."""
    (told,) = [ring for ring in rings_of(ties) if tie in ring and set(ring) <= set(tree) | {tie}]
    return told


def cut_with(many, ties, tree, tie):
    """All ties between the two sets of places into which a tree falls without a tie."""
    one, other = lots_of(many, [ties[part] for part in tree if part != tie])
    return tuple(part for part, (a, b, _) in enumerate(ties) if (a in one) != (b in one))


def product_of_signs(ties, tree):
    product = 1
    for tie in tree:
        product *= ties[tie][2]
    return product
