"""What pages come to, told another way: by handing everything that could make a difference.

Nothing of the package is used but `told` and `line`. Only for small pages.
"""

from itertools import product


def pages_of(book, name):
    return [book.page(told).told() for told in book.line(name)]


def fillings_of(pages):
    table = {}

    def note(items, page, way):
        for at, item in enumerate(items):
            if item[0] == "block":
                table.setdefault(item[1], []).append((page, item[2], way + [at]))
                note(item[2], page, way + [at])
            if item[0] == "choice":
                note(item[2] + item[3], page, way + [at])

    for page, items, _ in pages:
        note(items, page, [])
    return table


class Round(Exception):
    """A filling is come to within itself."""


class Laying:
    """Lays a page; a choice takes the sides that `sides(name)` tells: [0], [1] or both.

    `met` has all that is come to: kind, text or name, page, way, and a trail that no
    other one has; `fillings` has pairs of page and name; `count` counts the items.
    """

    def __init__(self, pages, sides):
        self.table = fillings_of(pages)
        self.sides = sides
        self.met = []
        self.fillings = []
        self.count = 0
        name, items, _ = pages[-1]
        self.flat = self.lay(items, 0, name, [], None, (), ())

    def lay(self, items, start, page, way, filling, around, trail):
        flat = []
        for at, item in enumerate(items, start):
            self.count += 1
            kind, here, mark = item[0], way + [at], trail + (at,)
            if kind in ("text", "name", "choice"):
                self.met.append((kind, item[1], page, here, mark))
            if kind in ("text", "name"):
                flat.append(item)
            elif kind == "choice":
                both = [[], []]
                for side in self.sides(item[1]):
                    begin = side * len(item[2])
                    both[side] = self.lay(item[2 + side], begin, page, here, filling, around, mark)
                flat.append(("choice", item[1], both[0], both[1]))
            elif kind == "block":
                flat.extend(self.fill((item[1], 0), around, mark))
            else:
                flat.extend(self.fill((filling[0], filling[1] + 1), around, mark))
        return flat

    def fill(self, key, around, trail):
        if key in around:
            raise Round()
        name, at = key
        if at >= len(self.table[name]):
            return []
        page, items, way = self.table[name][at]
        self.fillings.append((page, name))
        return self.lay(items, 0, page, way, key, around + (key,), trail)


def both_ways(pages):
    return Laying(pages, lambda name: [0, 1])


def made_of(pages, handed):
    """The text and the pieces."""
    laying = Laying(pages, lambda name: [0] if handed[name] else [1])
    parts = []
    for kind, told, page, way, _ in laying.met:
        if kind != "choice":
            parts.append((told if kind == "text" else handed[told], page, way))
    return "".join(part[0] for part in parts), [(len(s), page, way) for s, page, way in parts if s]


def names_in(pages):
    """All names that stand in the pages' names and choices, come to or not."""
    found = []
    rest = [items for _, items, _ in pages]
    while rest:
        for item in rest.pop():
            if item[0] in ("name", "choice") and item[1] not in found:
                found.append(item[1])
            rest.extend(part for part in item[1:] if isinstance(part, list))
    return sorted(found)


def patterns(names):
    for bits in product([False, True], repeat=len(names)):
        yield dict(zip(names, bits))


def asked_of(pages):
    names = names_in(pages)
    runs = []
    for filled in patterns(names):
        laying = Laying(pages, lambda name, filled=filled: [0] if filled[name] else [1])
        runs.append((filled, {mark for *_, mark in laying.met}))
    told = {}
    for kind, name, _, _, mark in both_ways(pages).met:
        comes = [filled for filled, marks in runs if mark in marks]
        if kind != "text" and name not in told and comes:
            told[name] = (name, [k for k in names if all(one[k] for one in comes)],
                          [k for k in names if not any(one[k] for one in comes)])
    return list(told.values())


def idle_of(pages):
    laid = set()
    for filled in patterns(names_in(pages)):
        laid.update(Laying(pages, lambda name, filled=filled: [0] if filled[name] else [1]).fillings)
    pairs = []

    def note(items, page):
        for item in items:
            if item[0] == "block":
                pairs.append((page, item[1]))
            for part in item[1:]:
                if isinstance(part, list):
                    note(part, page)

    for page, items, _ in pages:
        note(items, page)
    return [pair for pair in pairs if pair not in laid]


def fewest_of(first, second, texts):
    """The fewest signs, of these texts for each name asked, that part the two; None for alike."""
    names = sorted({name for name, _, _ in asked_of(first) + asked_of(second)})
    rest = {name: "" for name in names_in(first) + names_in(second)}
    best = None
    for row in product(texts, repeat=len(names)):
        signs = len("".join(row))
        handed = {**rest, **dict(zip(names, row))}
        if (best is None or signs < best) and made_of(first, handed)[0] != made_of(second, handed)[0]:
            best = signs
    return best
