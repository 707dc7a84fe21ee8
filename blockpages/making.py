"""Pages made, flattened, and asked what they ask for."""

from blockpages.answers import Made
from blockpages.laying import blocks_of, laid_page
from blockpages.pages import flattened_page, line_pages
from blockpages.walking import asked_names, flat_items, reached, text_and_pieces


def made(book, name, handed):
    """The page made of what is handed."""
    text, pieces = text_and_pieces(book, name, handed)
    return Made(text, pieces)


def flat(book, name):
    """The page without elder and blocks."""
    return flattened_page(name, flat_items(laid_page(book, name)))


def asked(book, name):
    """The names that can be asked for, each with those that must and must not have signs."""
    return asked_names(laid_page(book, name))


def idle(book, name):
    """The fillings that are never laid: pairs of a page and a block's name."""
    laid = {}
    for node, _, _ in reached(laid_page(book, name)):
        if node[0] == "filling":
            laid[(node[2], node[1])] = True
    pairs = []
    for page in line_pages(book, name):
        for block, _, _ in blocks_of(page.rows, []):
            pairs.append((page.name, block))
    return [pair for pair in pairs if pair not in laid]
