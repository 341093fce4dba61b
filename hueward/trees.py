"""The shapes of statements and expressions, and what stands in them.

A node here is a statement or an expression of a program.
"""

# For each word the kinds of the items behind it. The order of the items is
# also the order in which the nodes in them are read.
SHAPES = {
    "let": ("name", "expression"),
    "put": ("array", "expression", "expression"),
    "if": ("expression", "body", "body"),
    "while": ("expression", "body"),
    "show": ("port", "expression"),
    "take": ("name",),
    "give": ("expression",),
    "stop": (),
    "mark": (),
    "number": ("number",),
    "local": ("name",),
    "cell": ("array", "expression"),
    "plus": ("expression", "expression"),
    "minus": ("expression", "expression"),
    "times": ("expression", "expression"),
    "rest": ("expression", "expression"),
    "less": ("expression", "expression"),
    "same": ("expression", "expression"),
    "run": ("function", "arguments"),
}
STATEMENTS = ("let", "put", "if", "while", "show", "take", "give", "stop", "mark")
EXPRESSIONS = ("number", "local", "cell", "plus", "minus", "times", "rest", "less", "same", "run")


def nodes_of_field(kind, field):
    """The nodes that stand directly in an item of a node."""
    if kind == "expression":
        return (field,)
    if kind == "body" or kind == "arguments":
        return field
    return ()


def inner_nodes(node):
    """The nodes that stand directly in a node, in their order."""
    found = []
    for kind, field in zip(SHAPES[node[0]], node[1:]):
        found.extend(nodes_of_field(kind, field))
    return found


def listed(body):
    """All nodes of a body, each ahead of what stands in it."""
    found = []
    for node in body:
        found.append(node)
        found.extend(listed(inner_nodes(node)))
    return found


def listed_depths(body, depth):
    """The depths of listed(body), if the nodes of the body itself have this depth."""
    found = []
    for node in body:
        found.append(depth)
        found.extend(listed_depths(inner_nodes(node), depth + 1))
    return found


def body_with(body, at, node):
    """The body with another node at an index of listed(body); itself if there is none."""
    result = []
    for old in body:
        many = len(listed((old,)))
        if 0 <= at < many:
            result.append(node_with(old, at, node))
        else:
            result.append(old)
        at = at - many
    return tuple(result)


def node_with(old, at, node):
    """A node in which the one at an index of listed((old,)) is exchanged."""
    if at == 0:
        return node
    at = at - 1
    result = [old[0]]
    for kind, field in zip(SHAPES[old[0]], old[1:]):
        inside = nodes_of_field(kind, field)
        changed = body_with(inside, at, node)
        at = at - len(listed(inside))
        if kind == "expression":
            result.append(changed[0])
        elif kind == "body" or kind == "arguments":
            result.append(changed)
        else:
            result.append(field)
    return tuple(result)


def node_renamed(node, table):
    """A node in which all names that are keys of the table are exchanged."""
    result = [node[0]]
    for kind, field in zip(SHAPES[node[0]], node[1:]):
        if kind == "expression":
            result.append(node_renamed(field, table))
        elif kind == "body" or kind == "arguments":
            result.append(body_renamed(field, table))
        elif kind == "port" or kind == "number":
            result.append(field)
        else:
            result.append(table.get(field, field))
    return tuple(result)


def body_renamed(body, table):
    """A body in which all names that are keys of the table are exchanged."""
    return tuple([node_renamed(node, table) for node in body])
