"""The row of a web by the busy ties of its joining trees."""

from crosswebs.base.rows import Row
from crosswebs.base.words import are_counts
from crosswebs.errors import InvalidOperation, InvalidOrder, InvalidPaper, InvalidTree
from crosswebs.webs.webs import check_web, each_tree, is_tree, sets_closed

# By the kind of a tie, what it gives to the weight: a sign, and the exponent for a tie of sign 1.
_GIFTS = {"tree busy": (-1, -3), "tree": (1, 1), "other busy": (-1, 3), "other": (1, -1)}


def is_order(web, value):
    """Whether the value is an order of the web."""
    _check_hanging(web)
    return are_counts(value) and sorted(value) == list(range(len(web)))


def busy_kinds(web, tree, order):
    """By ties, their kinds for a joining tree and an order."""
    _check_hanging(web)
    if not is_tree(web, tree):
        raise InvalidTree("no joining tree of the web")
    _check_order(web, order)
    return _kinds_of(web, tree, order)


def weight(web, tree, order):
    """The weight of a joining tree, by an order."""
    return _weight_of(web, busy_kinds(web, tree, order))


def bracket_by_trees(web, *, order=None):
    """The sum of the weights of all joining trees, whatever the order."""
    _check_hanging(web)
    taken = tuple(range(len(web))) if order is None else order
    _check_order(web, taken)
    return _sum_of_weights(web, [_kinds_of(web, tree, taken) for tree in each_tree(web)])


def tree_paper(web, order):
    """The tree paper that comes by an order."""
    _check_hanging(web)
    _check_order(web, order)
    return tuple([_triple_of(tree, _kinds_of(web, tree, order)) for tree in each_tree(web)])


def is_tree_paper(web, value):
    """Whether the value is a tree paper of the web, whether it comes by an order or not."""
    _check_hanging(web)
    if not (isinstance(value, tuple) and all([_is_triple(web, part) for part in value])):
        return False
    if [tree for tree, _, _ in value] != list(each_tree(web)):
        return False
    # Reaches of which no two have a set in common, and that have all sets together, have each set once.
    together = sum([1 << (len(greatest) - len(least)) for _, least, greatest in value])
    return together == 1 << len(web) and not _have_some_in_common(value)


def row_of_paper(web, paper):
    """The row that comes from a tree paper."""
    if not is_tree_paper(web, paper):
        raise InvalidPaper("no tree paper of the web")
    return _sum_of_weights(web, [_kinds_in(web, triple) for triple in paper])


def _check_hanging(web):
    """Refuse what is no web, and a web that does not hang together."""
    check_web(web)
    if not web.hangs:
        raise InvalidOperation("the web does not hang together")


def _check_order(web, value):
    """Refuse what is no order of the web."""
    if not is_order(web, value):
        raise InvalidOrder("no order of the ties")


def _kinds_of(web, tree, order):
    """By ties, their kinds for a joining tree and an order."""
    kinds = []
    for tie, closed in enumerate(sets_closed(web, tree)):
        busy = min([order.index(part) for part in closed]) == order.index(tie)
        kinds.append(_kind_of(tie in tree, busy))
    return tuple(kinds)


def _kind_of(is_in_tree, is_busy):
    """The kind of a tie."""
    word = "tree" if is_in_tree else "other"
    return f"{word} busy" if is_busy else word


def _weight_of(web, kinds):
    """The product of what the ties give by their kinds."""
    gifts = [_GIFTS[kind] for kind in kinds]
    exponent = sum([power * sign for (_, power), sign in zip(gifts, web.signs)])
    is_odd = [factor for factor, _ in gifts].count(-1) % 2 == 1
    return Row.power(exponent, many=-1 if is_odd else 1)


def _sum_of_weights(web, told):
    """The sum of the weights by several tuples of kinds."""
    total = Row.none()
    for kinds in told:
        total = total + _weight_of(web, kinds)
    return total


def _triple_of(tree, kinds):
    """A joining tree with its least and its greatest set, by the kinds of the ties."""
    least = tuple([tie for tie in tree if kinds[tie] == "tree"])
    greatest = tuple([tie for tie, kind in enumerate(kinds) if kind != "other"])
    return (tree, least, greatest)


def _kinds_in(web, triple):
    """By ties, their kinds as a triple of a tree paper tells them."""
    tree, least, greatest = triple
    return tuple([_kind_of(tie in tree, tie in greatest and tie not in least) for tie in range(len(web))])


def _is_triple(web, value):
    """Whether the value has three ascending tuples of ties, each one with all ties of the one told as less."""
    if not (isinstance(value, tuple) and len(value) == 3 and all([_are_ties(web, part) for part in value])):
        return False
    tree, least, greatest = value
    return all([tie in tree for tie in least]) and all([tie in greatest for tie in tree])


def _are_ties(web, value):
    """Whether the value is an ascending tuple of ties of the web."""
    return are_counts(value) and list(value) == sorted(set(value)) and all([tie < len(web) for tie in value])


def _have_some_in_common(triples):
    """Whether some set of ties is in the reaches of two of the triples."""
    for at, (_, least, greatest) in enumerate(triples):
        for _, other_least, other_greatest in triples[:at]:
            if all([tie in other_greatest for tie in least]) and all([tie in greatest for tie in other_least]):
                return True
    return False
