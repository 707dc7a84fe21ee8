"""Walks over the nodes of a laid page."""

from blockpages.errors import BadHanded, Lacks
from blockpages.laying import laid_page
from blockpages.pages import is_name, is_text


def copied_handed(handed):
    """The dict anew, if it is one of names and texts."""
    if not isinstance(handed, dict):
        raise BadHanded("what is handed is a dict")
    copied = {}
    for name, text in handed.items():
        if not is_name(name) or not is_text(text):
            raise BadHanded("handed are names and texts of 0 to 60 signs")
        copied[name] = text
    return copied


def text_for(handed, name):
    """The text that is handed for the name."""
    if name not in handed:
        raise Lacks(name)
    return handed[name]


def nodes_within(node, handed):
    """The nodes of a filling, or those of a choice that what is handed takes."""
    if node[0] == "filling":
        return node[3]
    if text_for(handed, node[1]):
        return node[2]
    return node[3]


def add_shown(nodes, handed, found):
    """Adds to found the texts that the nodes show, each with its page and way."""
    for node in nodes:
        if node[0] == "text":
            found.append((node[1], node[2], node[3]))
        elif node[0] == "name":
            found.append((text_for(handed, node[1]), node[2], node[3]))
        else:
            add_shown(nodes_within(node, handed), handed, found)


def shown_text(nodes, handed):
    """The text that the nodes show."""
    found = []
    add_shown(nodes, handed, found)
    return "".join([text for text, _, _ in found])


def text_and_pieces(book, name, handed):
    """The text and the pieces of the page made of what is handed."""
    nodes = laid_page(book, name)
    found = []
    add_shown(nodes, copied_handed(handed), found)
    text = "".join([part for part, _, _ in found])
    return (text, [(len(part), page, way) for part, page, way in found if part])


def flat_items(nodes):
    """The items of the flattened page."""
    items = []
    for node in nodes:
        if node[0] == "filling":
            items.extend(flat_items(node[3]))
        elif node[0] == "choice":
            items.append(("choice", node[1], flat_items(node[2]), flat_items(node[3])))
        else:
            items.append((node[0], node[1]))
    return items


def joined(names, name):
    """The names and that one, rising, each once."""
    if name in names:
        return names
    return sorted(names + [name])


def add_reached(nodes, filled, bare, found):
    """Adds to found each node that something handed comes to, in order, an outer one first,
    with the names that must have signs and those that must not."""
    for node in nodes:
        found.append((node, filled, bare))
        name = node[1]
        if node[0] == "filling":
            add_reached(node[3], filled, bare, found)
        elif node[0] == "choice":
            if name not in bare:
                add_reached(node[2], joined(filled, name), bare, found)
            if name not in filled:
                add_reached(node[3], filled, joined(bare, name), found)


def reached(nodes):
    """The nodes that something handed comes to, as add_reached tells them."""
    found = []
    add_reached(nodes, [], [], found)
    return found


def asked_names(nodes):
    """The names that can be asked for, each with what must and must not have signs."""
    found = {}
    for node, filled, bare in reached(nodes):
        if node[0] in ("name", "choice") and node[1] not in found:
            found[node[1]] = (node[1], list(filled), list(bare))
    return list(found.values())
