"""Trees of a plain net: the tree of a heap that comes again, the heap of a tree, and all trees."""

from heapstill.errors import NoTree, NotAgain
from heapstill.fire import comes_again, fire
from heapstill.nets import leads, need_plain
from heapstill.rings import all_again


def tree_of(net, heap):
    rounds = fire(net, heap)
    if not comes_again(net, heap):
        raise NotAgain("the heap does not come again")
    tree = []
    for place, grains in enumerate(heap):
        told = own_choices(net, place, rounds + [0])
        tree.append(told[0][told[1] - grains])
    return sorted(tree)


def heap_of(net, tree):
    need_plain(net)
    need_tree(net, tree)
    depths = tree_depths(net, tree) + [0]
    heap = []
    for place in range(net[0]):
        told = own_choices(net, place, depths)
        # Of the tree's roads just one leads from the place towards the pit.
        own = [at for at, number in enumerate(told[0]) if number in tree]
        heap.append(told[1] - own[0])
    return heap


def all_trees(net):
    need_plain(net)
    return sorted([tree_of(net, heap) for heap in all_again(net)])


def own_choices(net, place, marks):
    """The roads that may be a place's own, and the grains that go with the first of them; each next has one fewer.

    Marks are rounds or depths, the pit's last; a place's own road leads to what has a mark just below its own.
    """
    ends = road_ends(net, place)
    below = marks[place] - 1
    near = [number for number, end in ends if marks[end] == below]
    early = [number for number, end in ends if marks[end] < below]
    return (near, len(ends) - 1 - len(early))


def road_ends(net, place):
    return [(number, sum(road) - place) for number, road in enumerate(net[1]) if place in road]


def tree_depths(net, tree):
    return leads(net[0], [net[1][number] for number in tree], [])


def need_tree(net, tree):
    if len(tree) != net[0]:
        raise NoTree("a tree has as many roads as the net has places")
    if any([one >= other for one, other in zip(tree, tree[1:])]):
        raise NoTree("a tree's road numbers rise")
    if tree[0] < 0 or tree[-1] >= len(net[1]):
        raise NoTree("a tree has a number that is no road's")
    if None in tree_depths(net, tree):
        raise NoTree("a place has no way to the pit along the tree's roads")
