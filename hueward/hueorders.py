"""Orders: lists of hues, those of the instructions of a stretch, among all that have each hue as often."""


def counts_of(order):
    """The list of how often each hue stands in an order."""
    return [order.count(hue) for hue in range(max(order) + 1)]


def arrangements(order):
    """How many orders have each hue as often."""
    many = 1
    laid = 0
    for count in counts_of(order):
        for own in range(1, count + 1):
            laid += 1
            # So many ways to lay one hue more among those laid so far, of which the own ones are alike.
            many = many * laid // own
    return many


def order_rank(order):
    """How many of these orders stand ahead of one."""
    counts = counts_of(order)
    many = arrangements(order)
    rank = 0
    for at, own in enumerate(order):
        left = len(order) - at
        # So many of those that are alike up to here go on with each hue.
        rank = rank + many * sum(counts[:own]) // left
        many = many * counts[own] // left
        counts[own] -= 1
    return rank


def order_at(order, rank):
    """The one of these orders that has so many ahead of it."""
    counts = counts_of(order)
    many = arrangements(order)
    found = []
    for at in range(len(order)):
        left = len(order) - at
        own = 0
        while rank >= many * counts[own] // left:
            rank = rank - many * counts[own] // left
            own += 1
        many = many * counts[own] // left
        counts[own] -= 1
        found.append(own)
    return found


def counts_ahead(order, hues):
    """For each hue the list of how often each hue stands ahead of each of its own."""
    found = [[] for _ in range(hues)]
    counts = [0] * hues
    for hue in order:
        found[hue].append(list(counts))
        counts[hue] += 1
    return found


def parted_pairs(order, other):
    """How many pairs stand in another order in the other sequence."""
    hues = max(order) + 1
    many = 0
    for rows, others in zip(counts_ahead(order, hues), counts_ahead(other, hues)):
        for row, another in zip(rows, others):
            # Those of a hue that stand ahead of it only in the other order.
            many += sum([max(0, count - before) for before, count in zip(row, another)])
    return many


def ways_to(order, other):
    """The indexes at which neighbours are exchanged, one behind another, so that another order comes."""
    now = list(order)
    found = []
    for at, hue in enumerate(other):
        there = now.index(hue, at)
        del now[there]
        now.insert(at, hue)
        found.extend(list(range(there - 1, at - 1, -1)))
    return found
