"""What parts two laid pages."""

from itertools import combinations

from blockpages.errors import TooMany
from blockpages.laying import laid_page
from blockpages.pages import line_pages
from blockpages.walking import asked_names, shown_text

MOST_NAMES = 8
# If the pages show unlike rows of signs and names, the first place at which they do
# shows one sign at most, which at least one of these two rows lacks.
SIGN_ROWS = ("abcdefgh", "ijklmnop")


def laid_pair(book, name, other, there):
    """The nodes of both pages."""
    # A bad name of the second page, too, is told ahead of what else the first one is refused for.
    line_pages(other, there)
    first = laid_page(book, name)
    return (first, laid_page(other, there))


def names_in_either(first, second):
    """The names that can be asked for in either page."""
    names = []
    for name, _, _ in asked_names(first) + asked_names(second):
        if name not in names:
            names.append(name)
    if len(names) > MOST_NAMES:
        raise TooMany("the two pages ask for more than eight names")
    return names


def is_parting(first, second, handed):
    """Whether the two pages are made unlike of what is handed."""
    return shown_text(first, handed) != shown_text(second, handed)


def one_sign_each(names, filled, signs):
    """Texts for all names: unlike single signs for the filled ones, none for the others."""
    handed = {name: "" for name in names}
    for name, sign in zip(filled, signs):
        handed[name] = sign
    return handed


def least_parting(first, second):
    """Texts of as few signs as can be that part the pages, or None if they are alike.

    With the same names filled, pages that longer texts part show unlike rows of signs
    and names; then single signs part them, too. So the fewest names filled are sought.
    """
    names = names_in_either(first, second)
    for many in range(len(names) + 1):
        for filled in combinations(names, many):
            for signs in SIGN_ROWS:
                handed = one_sign_each(names, filled, signs)
                if is_parting(first, second, handed):
                    return handed
    return None


def signs_in(handed):
    """How many signs the texts have together."""
    return sum([len(text) for text in handed.values()])
