"""Trees that cut cones down to cones of the index 1."""

from pointtally.cones import holds, replaced
from pointtally.forms import are_numbers
from pointtally.matrices import parts_of
from pointtally.nearrows import index_of
from pointtally.shortparts import short_vector


def is_tree(rays, value):
    """Tell of any value whether it is a tree of the rays."""
    size = index_of(rays)
    if not isinstance(value, tuple):
        return False
    if size == 1 or len(value) != 2:
        return size == 1 and len(value) == 0
    if not are_numbers(value[0], len(rays)) or not any(value[0]):
        return False
    w, inner = value
    numbers, _ = parts_of(rays, w)
    places = [i for i, number in enumerate(numbers) if number != 0]
    if not isinstance(inner, tuple) or len(inner) != len(places) or max([abs(number) for number in numbers]) >= size:
        return False
    for i, child in zip(places, inner):
        if not is_tree(replaced(rays, i, w), child):
            return False
    return True


def tree_of(rays):
    """Return a tree of the rays."""
    if index_of(rays) == 1:
        return ()
    w, numbers = short_vector(rays)
    places = [i for i, number in enumerate(numbers) if number != 0]
    return (w, tuple([tree_of(replaced(rays, i, w)) for i in places]))


def leaves(rays, tree):
    """Return the tuple of (sign, rays) for each leaf of a tree, in its sequence."""
    found = []
    _gather_leaves(rays, tree, 1, found)
    return tuple(found)


def _gather_leaves(rays, tree, sign, found):
    """Append to found the leaves of a tree, whose signs begin with this one."""
    if tree == ():
        found.append((sign, rays))
        return
    w, inner = tree
    numbers, _ = parts_of(rays, w)
    places = [i for i, number in enumerate(numbers) if number != 0]
    for i, child in zip(places, inner):
        _gather_leaves(replaced(rays, i, w), child, sign if numbers[i] > 0 else -sign, found)


def tree_rays(rays, tree):
    """Return the ascending tuple of the unlike vectors of the rays and of the tree."""
    found = {ray: True for ray in rays}
    waiting = [tree]
    while waiting:
        node = waiting.pop()
        if node != ():
            found[node[0]] = True
            waiting += list(node[1])
    return tuple(sorted(found))


def leaves_hold(rays, tree, lam, apex, x):
    """Return the sum, over the leaves, of their signs times what holds tells of them."""
    return sum([sign * holds(inner, lam, apex, x) for sign, inner in leaves(rays, tree)])
