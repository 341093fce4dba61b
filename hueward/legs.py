"""Ways through the labels of even codes, and where marks must be put to cut them short."""

from hueward.blocks import blocks_of, goal_of

# Cells behind which a leg has ended, and those behind which the next address never comes.
LEG_ENDS = ("mark", "stop")
NEVER_ON = ("goto", "stop")


def follows(inside, at):
    """The list of the addresses that may come behind an address."""
    cell = inside[at]
    found = []
    if goal_of(cell) is not None:
        found.append(cell[1])
    if cell[0] not in NEVER_ON:
        found.append(at + 1)
    return found


class Net:
    """The blocks of a code as nodes, by their indexes: labels, counts of cells, and the nodes behind each.

    A node ends legs if its last cell is a mark or a stop. Only the nodes to
    which ways come are asked for.
    """

    def __init__(self, inside):
        blocks = blocks_of(inside)
        self.labels = [block[0] for block in blocks]
        self.many = [len(block) for block in blocks]
        self.ends = [inside[block[-1]][0] in LEG_ENDS for block in blocks]
        nodes = {label: node for node, label in enumerate(self.labels)}
        self.behind = []
        for block in blocks:
            self.behind.append([nodes[at] for at in follows(inside, block[-1])])
        self.come_to = nodes_come_to(self.behind)


def nodes_come_to(behind):
    """The ascending list of the nodes to which ways from the first one come."""
    seen = {0: True}
    waiting = [0]
    while waiting:
        for node in behind[waiting.pop()]:
            if node not in seen:
                seen[node] = True
                waiting.append(node)
    return sorted(seen)


def goes_on(net, marked, node):
    """The list of the nodes in which a leg goes on behind a node; marked has a truth for each node."""
    if net.ends[node]:
        return []
    return [other for other in net.behind[node] if not marked[other]]


def longest_from(net, marked):
    """A dict from nodes to the greatest counts of cells of a leg from there on; those on or ahead of rounds lack.

    Its keys come in a sequence in which each stands behind those in which legs go on.
    """
    ahead = {node: [] for node in net.come_to}
    open_many = {}
    for node in net.come_to:
        going = goes_on(net, marked, node)
        open_many[node] = len(going)
        for other in going:
            ahead[other].append(node)
    ready = [node for node in net.come_to if open_many[node] == 0]
    found = {}
    while ready:
        node = ready.pop()
        counts = [found[other] for other in goes_on(net, marked, node)]
        # A leg that goes on in no other node has the mark ahead of the next one, unless it ends by itself.
        found[node] = net.many[node] + max(counts + [int(not net.ends[node])])
        for other in ahead[node]:
            open_many[other] -= 1
            if open_many[other] == 0:
                ready.append(other)
    return found


def longest_leg_of(net, marked):
    """The greatest count of cells of a leg; None if there is no greatest one."""
    found = longest_from(net, marked)
    if len(found) < len(net.come_to):
        return None
    return max(list(found.values()))


def round_of(net, marked, found):
    """The list of the nodes of some round without a mark."""
    left = [node for node in net.come_to if node not in found]
    way = []
    node = left[0]
    while node not in way:
        way.append(node)
        node = [other for other in goes_on(net, marked, node) if other not in found][0]
    return way[way.index(node):]


def too_long(net, marked, length):
    """The nodes of which one must be marked, since a leg is longer than length without; None if no leg is."""
    found = longest_from(net, marked)
    if len(found) < len(net.come_to):
        return round_of(net, marked, found)
    for first, many in found.items():
        if many > length:
            way = []
            going = goes_on(net, marked, first)
            while going:
                node = max(going, key=lambda other: found[other])
                way.append(node)
                going = goes_on(net, marked, node)
            return way
    return None


def with_nodes(net, marked, banned, room, length):
    """The marked nodes and at most so many more, none that is banned, so that no leg is too long; None if none are."""
    wanted = too_long(net, marked, length)
    if wanted is None:
        return marked
    if room == 0:
        return None
    banned = list(banned)
    for node in wanted:
        if banned[node]:
            continue
        more = list(marked)
        more[node] = True
        found = with_nodes(net, more, banned, room - 1, length)
        if found is not None:
            return found
        # All sets with this node were looked through.
        banned[node] = True
    return None
