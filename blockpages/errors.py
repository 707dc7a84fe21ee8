"""The refusals of blockpages."""


class PageError(ValueError):
    """What every refusal of this package is."""


class BadPage(PageError):
    """No name, items or elder such as a page has."""


class BadBook(PageError):
    """No list of pages such as a book has."""


class BadName(PageError):
    """No name of a page of the book."""


class BadHanded(PageError):
    """No dict of names and texts such as is handed."""


class Lacks(PageError):
    """A name is asked for and not handed: `name`."""

    def __init__(self, name):
        PageError.__init__(self, f"nothing is handed for the name {name}")
        self.name = name


class Endless(PageError):
    """A filling is come to within itself: `ring`, pairs of a block's name and a page."""

    def __init__(self, ring):
        PageError.__init__(self, f"the page is endless by {len(ring)} fillings")
        self.ring = list(ring)


class TooMany(PageError):
    """More items, or more names, than are laid or compared."""


class Unlike(PageError):
    """No two books with the same names of pages."""
