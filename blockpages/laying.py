"""Laying a page: the fillings of its line, the ring of an endless one, its laid nodes.

A table holds for each block's name its fillings from the youngest page on, each with
its page's name, its items and its way. A key, a name and a count, tells one of them.
The nodes that a page is laid to are
    ("text", text, page, way) and ("name", name, page, way),
    ("choice", name, nodes, nodes),
    ("filling", name, page, nodes).
"""

from blockpages.errors import Endless, TooMany
from blockpages.pages import line_pages

MOST_LAID = 400
# No block has this name, so the eldest page's own items can be laid like a filling's.
ROOT = ("", 0)


def items_within(item):
    """The items straight within an item, the second ones of a choice behind the first ones."""
    if item[0] == "block":
        return item[2]
    if item[0] == "choice":
        return item[2] + item[3]
    return []


def blocks_of(items, way):
    """The blocks among the items and within them, in order: name, items and way of each."""
    found = []
    for at, item in enumerate(items):
        here = way + [at]
        if item[0] == "block":
            found.append((item[1], item[2], here))
        found.extend(blocks_of(items_within(item), here))
    return found


def table_of(pages):
    """The fillings of all names in the pages of a line, and the eldest page's items as ROOT."""
    table = {}
    for page in pages:
        for name, items, way in blocks_of(page.rows, []):
            table.setdefault(name, []).append((page.name, items, way))
    eldest = pages[-1]
    table[ROOT[0]] = [(eldest.name, eldest.rows, [])]
    return table


def key_laid(item, key):
    """The key of what a block or an elder lays that stands in the filling of the key."""
    if item[0] == "block":
        return (item[1], 0)
    return (key[0], key[1] + 1)


def is_filling(table, key):
    """Whether there is such a filling: the last one's elder lays none."""
    return key[1] < len(table[key[0]])


def own_items(items):
    """The items and, of choices, those within both ways; a block's are other fillings'."""
    found = []
    for item in items:
        found.append(item)
        if item[0] == "choice":
            found.extend(own_items(items_within(item)))
    return found


def pair_of(table, key):
    """The block's name and the page of a filling."""
    return (key[0], table[key[0]][key[1]][0])


def weight_of(table, key, path, weights):
    """How many items laying the filling comes to; the path holds the fillings around it.

    The weights hold each filling's once it is known: laid one by one, the items of some
    pages are too many to count.
    """
    if key in path:
        ring = path[path.index(key):]
        raise Endless([pair_of(table, each) for each in ring])
    if key in weights:
        return weights[key]
    path.append(key)
    many = 0
    for item in own_items(table[key[0]][key[1]][1]):
        many += 1
        if item[0] == "block" or item[0] == "elder":
            inner = key_laid(item, key)
            if is_filling(table, inner):
                many += weight_of(table, inner, path, weights)
    path.pop()
    weights[key] = many
    return many


def laid_items(table, key, items, way, start):
    """The nodes of items that stand in the filling of the key, counted from start on."""
    page = table[key[0]][key[1]][0]
    nodes = []
    for at, item in enumerate(items, start=start):
        here = way + [at]
        if item[0] == "choice":
            first = laid_items(table, key, item[2], here, 0)
            second = laid_items(table, key, item[3], here, len(item[2]))
            nodes.append(("choice", item[1], first, second))
        elif item[0] == "block" or item[0] == "elder":
            inner = key_laid(item, key)
            if is_filling(table, inner):
                nodes.append(laid_filling(table, inner))
        else:
            nodes.append((item[0], item[1], page, here))
    return nodes


def laid_filling(table, key):
    """The node of a filling."""
    page, items, way = table[key[0]][key[1]]
    return ("filling", key[0], page, laid_items(table, key, items, way, 0))


def laid_page(book, name):
    """The nodes that the page is laid to (BadName, then Endless, then TooMany)."""
    table = table_of(line_pages(book, name))
    if weight_of(table, ROOT, [], {}) > MOST_LAID:
        raise TooMany("the page comes to more than 400 items")
    return laid_filling(table, ROOT)[3]
