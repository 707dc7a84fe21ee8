"""The answers, which can be asked whether they are right."""

from blockpages.parting import is_parting, laid_pair, least_parting, names_in_either, signs_in
from blockpages.walking import text_and_pieces


def has_truth(pieces):
    """Whether a truth stands for a number: Python takes them for equal."""
    for many, _, way in pieces:
        if any([isinstance(number, bool) for number in [many] + way]):
            return True
    return False


class Answer:
    """What every answer of this package is."""


class Made(Answer):
    """A page made: its text and the pieces, triples of signs, page and way."""

    def __init__(self, text, pieces):
        self.text = text
        self.pieces = [(many, page, list(way)) for many, page, way in pieces]

    def shows(self, book, name, handed):
        """Whether the page is made so of what is handed."""
        text, pieces = text_and_pieces(book, name, handed)
        if self.text != text or self.pieces != pieces:
            return False
        return not has_truth(self.pieces)


class Alike(Answer):
    """Two pages are made alike."""

    def shows(self, book, name, other, there):
        """Whether the two pages are made alike of whatever is handed."""
        first, second = laid_pair(book, name, other, there)
        return least_parting(first, second) is None


class Parted(Answer):
    """Two pages are made unlike of what is handed, and of nothing with fewer signs."""

    def __init__(self, handed):
        self.handed = dict(handed)

    def shows(self, book, name, other, there):
        """Whether it is handed for just the names asked, parts the pages and has the fewest signs."""
        first, second = laid_pair(book, name, other, there)
        if set(self.handed) != set(names_in_either(first, second)):
            return False
        if not is_parting(first, second, self.handed):
            return False
        return signs_in(self.handed) == signs_in(least_parting(first, second))
