"""Pages compared, and books."""

from blockpages.answers import Alike, Parted
from blockpages.errors import Unlike
from blockpages.pages import Book
from blockpages.parting import laid_pair, least_parting


def compared(book, name, other, there):
    """Whether the two pages are made alike of whatever is handed, or the fewest signs that part them."""
    first, second = laid_pair(book, name, other, there)
    handed = least_parting(first, second)
    if handed is None:
        return Alike()
    return Parted(handed)


def changed(book, other):
    """The names of the pages that are not made alike in both books."""
    if not isinstance(book, Book) or not isinstance(other, Book):
        raise Unlike("two books are compared")
    if sorted(book.names()) != sorted(other.names()):
        raise Unlike("the books have not the same names of pages")
    return [name for name in book.names() if isinstance(compared(book, name, other, name), Parted)]
