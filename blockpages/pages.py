"""Pages and books, checked when they are created."""

from blockpages.errors import BadBook, BadName, BadPage

MOST_LETTERS = 8
MOST_SIGNS = 60
MOST_ITEMS = 30
MOST_DEEP = 6
MOST_PAGES = 6


def is_name(value):
    """Whether the value is a text of 1 to 8 small letters."""
    if not isinstance(value, str) or not 1 <= len(value) <= MOST_LETTERS:
        return False
    return all(["a" <= letter <= "z" for letter in value])


def is_text(value):
    """Whether the value is a text of 0 to 60 signs."""
    if not isinstance(value, str) or len(value) > MOST_SIGNS:
        return False
    return all([" " <= sign <= "~" or sign == "\n" for sign in value])


def read_items(items, deep, inside, seen):
    """A copy of the items, which stand so deep, inside a block or not."""
    if not isinstance(items, list):
        raise BadPage("items are a list")
    return [read_item(item, deep, inside, seen) for item in items]


def read_item(item, deep, inside, seen):
    """A copy of the item; seen gets each item read, so that reading ends even in a list within itself."""
    seen.append(item)
    if deep > MOST_DEEP or len(seen) > MOST_ITEMS:
        raise BadPage("more items, or more within one another, than a page has")
    if not isinstance(item, tuple) or not item or not isinstance(item[0], str):
        raise BadPage("an item is a tuple that begins with its kind")
    form = (item[0], len(item))
    if form == ("elder", 1) and inside:
        return ("elder",)
    if form == ("text", 2) and is_text(item[1]):
        return ("text", item[1])
    if form == ("name", 2) and is_name(item[1]):
        return ("name", item[1])
    if form == ("block", 3) and is_name(item[1]):
        return ("block", item[1], read_items(item[2], deep + 1, True, seen))
    if form == ("choice", 4) and is_name(item[1]):
        first = read_items(item[2], deep + 1, inside, seen)
        return ("choice", item[1], first, read_items(item[3], deep + 1, inside, seen))
    raise BadPage("there is no such item at this place")


def read_page_items(items):
    """A copy of the items of a whole page, no two of whose blocks have one name."""
    seen = []
    rows = read_items(items, 1, False, seen)
    names = [item[1] for item in seen if item[0] == "block"]
    if len(set(names)) < len(names):
        raise BadPage("two blocks have one name")
    return rows


def copied_items(items):
    """The items anew, with all lists within them."""
    copied = []
    for item in items:
        if item[0] == "block":
            copied.append(("block", item[1], copied_items(item[2])))
        elif item[0] == "choice":
            copied.append(("choice", item[1], copied_items(item[2]), copied_items(item[3])))
        else:
            copied.append(item)
    return copied


class Page:
    """A page: its name, its items and the name of its elder, or None."""

    def __init__(self, name, items, elder=None):
        if not is_name(name):
            raise BadPage("a page's name has 1 to 8 small letters")
        if elder is not None and not is_name(elder):
            raise BadPage("an elder is a page's name or None")
        self.name = name
        self.rows = read_page_items(items)
        self.elder = elder

    def told(self):
        """The name, the items and the elder."""
        return (self.name, copied_items(self.rows), self.elder)


def flattened_page(name, items):
    """A page without elder that may go beyond the limits which Page holds its items to."""
    page = Page(name, [])
    page.rows = items
    return page


def check_line(elders, name):
    """Refuses a line that leaves the book or comes round."""
    passed = []
    while name is not None:
        if name not in elders:
            raise BadBook("an elder is no page of the book")
        if name in passed:
            raise BadBook("elders come round")
        passed.append(name)
        name = elders[name]


def check_pages(pages):
    """Refuses what is no list of pages such as a book has."""
    if not isinstance(pages, list) or not 1 <= len(pages) <= MOST_PAGES:
        raise BadBook("a book has a list of 1 to 6 pages")
    for page in pages:
        if not isinstance(page, Page):
            raise BadBook("a book has nothing but pages")
    elders = {page.name: page.elder for page in pages}
    if len(elders) < len(pages):
        raise BadBook("two pages have one name")
    for name in elders:
        check_line(elders, name)


class Book:
    """A book: pages with unlike names whose elders are in the book."""

    def __init__(self, pages):
        check_pages(pages)
        self.pages = list(pages)

    def names(self):
        """The names of the pages, in their turn."""
        return [page.name for page in self.pages]

    def page(self, name):
        """The page of that name."""
        if isinstance(name, str):
            for page in self.pages:
                if page.name == name:
                    return page
        raise BadName("the book has no page of this name")

    def line(self, name):
        """The names of the page, its elder, and so on to the eldest."""
        page = self.page(name)
        names = [page.name]
        while page.elder is not None:
            page = self.page(page.elder)
            names.append(page.name)
        return names


def line_pages(book, name):
    """The pages of the line; what is no book has no page of any name."""
    if not isinstance(book, Book):
        raise BadName("there is no book to have a page of this name")
    return [book.page(told) for told in book.line(name)]
