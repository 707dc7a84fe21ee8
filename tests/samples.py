"""What several tests share: short words for items, and values of every kind."""

from blockpages.pages import Book, Page


def t(text):
    return ("text", text)


def n(name):
    return ("name", name)


def b(name, *items):
    return ("block", name, list(items))


def c(name, first, second):
    return ("choice", name, list(first), list(second))


E = ("elder",)


def book_of(*pages):
    """A book of pages told as (name, items) or (name, items, elder)."""
    return Book([Page(*page) for page in pages])


def line_of(*item_lists):
    """A book of pages a, b, c .. from the youngest to the eldest, each the next one's elder."""
    names = "abcdef"[:len(item_lists)]
    elders = list(names[1:]) + [None]
    return Book([Page(name, items, elder) for name, items, elder in zip(names, item_lists, elders)])


class Thing:
    """An object of no kind that the document lists."""


def of_every_kind():
    """Values of every kind but numbers with a point."""
    return [None, True, False, 0, 1, -1, "", "a", "A", "no such", b"", b"a", [], ["a"], [None], (), ("a",),
            ("text", "x"), [("text", "x")], {}, {"a": "x"}, {"a": 1}, {1: "a"}, set(), {"a"}, frozenset(), len,
            of_every_kind, lambda: 0, Thing, Thing(), range(3), 10 ** 30, "a" * 61, "\t", "\u00e9", "\ud800"]


def thrown(kind, call, *given):
    """The error that the call raises; it must be of just that kind."""
    try:
        told = call(*given)
    except Exception as error:
        if error.__class__ is not kind:
            raise AssertionError(f"{error.__class__} instead of {kind}: {error}") from error
        return error
    raise AssertionError(f"{told!r} instead of {kind} for {given!r}")


def endless_line():
    """Two pages: the block k of the younger one and the blocks of the elder one go round."""
    return line_of([b("k", b("m", E))], [b("m", b("k"))])


def wide_line(more):
    """A line of two pages that comes to 400 items and so many more, from 0 to 9.

    One block, 19 elders, and 19 times the 20 texts of the eldest page's block.
    """
    return line_of([b("k", *[E] * 19)], [b("k", *[t("x")] * 20)] + [t("y")] * more)


def rings_true(book, name, ring):
    """Whether each pair of the ring lays the next one, and the last one the first."""
    pages = [book.page(told).told() for told in book.line(name)]
    table = {}
    for page, items, _ in pages:
        note_blocks(items, page, table)
    for at, (block, page) in enumerate(ring):
        follow = ring[(at + 1) % len(ring)]
        if follow not in laid_by(table, block, page):
            return False
    return len(ring) > 0


def note_blocks(items, page, table):
    for item in items:
        if item[0] == "block":
            table.setdefault(item[1], []).append((page, item[2]))
        for inner in item[2:]:
            note_blocks(inner, page, table)


def laid_by(table, block, page):
    """The pairs that a filling lays, choices taken either way."""
    pages = [told for told, _ in table[block]]
    rest = list(table[block][pages.index(page)][1])
    laid = []
    while rest:
        item = rest.pop()
        if item[0] == "block":
            laid.append((item[1], table[item[1]][0][0]))
        if item[0] == "choice":
            rest.extend(item[2] + item[3])
        if item == E:
            laid.extend((block, told) for told in pages[pages.index(page) + 1:][:1])
    return laid
