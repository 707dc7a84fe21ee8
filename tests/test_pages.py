"""Point 2: names, signs, items, pages and books."""

import unittest

from blockpages.errors import (BadBook, BadHanded, BadName, BadPage, Endless, Lacks, PageError, TooMany, Unlike)
from blockpages.making import made
from blockpages.pages import Book, Page
from samples import E, b, c, line_of, n, of_every_kind, t, thrown

GOOD_NAMES = ["a", "z", "ab", "abcdefgh", "zzzzzzzz"]
BAD_NAMES = ["", "abcdefghi", "A", "aB", "a1", "1", "a b", " a", "a\n", "a_", "\u00e9", "a\u00e9", "\u0430", "`", "{"]
GOOD_TEXTS = ["", "x", " ", "~", "!", "\n", "a\nb", "x" * 60, "\n" * 60, "".join(chr(at) for at in range(32, 92)),
              "".join(chr(at) for at in range(92, 127))]
BAD_TEXTS = ["x" * 61, "\n" * 61, "\t", "a\tb", "\r", "\x7f", "\x1f", "\x00", "\u00e9", "\u0661", "x" * 59 + "\u2028"]


def nested(many, kind):
    """So many items, each within the one before, the last one a text."""
    item = t("x")
    for at in range(many - 1):
        if kind == "block":
            item = b("abcdefgh"[at], item)
        else:
            item = c("a", [item], []) if kind == "first" else c("a", [], [item])
    return [item]


class Same:
    """An object that is equal to everything."""

    def __eq__(self, other):
        return True

    def __hash__(self):
        return hash("a")


class Errors(unittest.TestCase):
    def test_family(self):
        self.assertEqual(PageError.__bases__, (ValueError,))
        for kind in (BadPage, BadBook, BadName, BadHanded, Lacks, Endless, TooMany, Unlike):
            self.assertEqual(kind.__bases__, (PageError,))

    def test_fields(self):
        self.assertEqual(Lacks("x").name, "x")
        self.assertIn("xyz", str(Lacks("xyz")))
        ring = [("k", "a"), ("l", "b")]
        error = Endless(ring)
        self.assertEqual(error.ring, ring)
        ring.append(("m", "c"))
        self.assertEqual(error.ring, [("k", "a"), ("l", "b")])


class Names(unittest.TestCase):
    def test_names(self):
        for name in GOOD_NAMES:
            self.assertEqual(Page(name, [n(name), b(name), c(name, [], [])], name).told(),
                             (name, [n(name), b(name), c(name, [], [])], name))

    def test_no_names(self):
        bad = BAD_NAMES + [each for each in of_every_kind() if each not in ("a",)]
        for name in bad:
            thrown(BadPage, Page, name, [])
            thrown(BadPage, Page, "a", [n(name)])
            thrown(BadPage, Page, "a", [("block", name, [])])
            thrown(BadPage, Page, "a", [("choice", name, [], [])])
            if name is not None:
                thrown(BadPage, Page, "a", [], name)

    def test_elder(self):
        self.assertEqual(Page("a", []).told(), ("a", [], None))
        self.assertEqual(Page("a", [], None).told(), ("a", [], None))
        self.assertEqual(Page(name="a", items=[], elder="b").told(), ("a", [], "b"))


class Texts(unittest.TestCase):
    def test_texts(self):
        for text in GOOD_TEXTS:
            self.assertEqual(Page("a", [t(text)]).told(), ("a", [t(text)], None))

    def test_no_texts(self):
        kinds = [each for each in of_every_kind() if each not in ("a", "A", "", "no such")]
        for text in BAD_TEXTS + kinds:
            thrown(BadPage, Page, "a", [t(text)])


class Items(unittest.TestCase):
    def test_each_kind(self):
        items = [t("x"), n("x"), b("k", E, c("x", [E], [E, b("l", E)])), c("y", [b("m")], [t("")])]
        self.assertEqual(Page("a", items).told(), ("a", items, None))

    def test_no_items(self):
        for items in of_every_kind():
            if items not in ([], [t("x")]):
                thrown(BadPage, Page, "a", items)
                thrown(BadPage, Page, "a", [("block", "k", items)])
                thrown(BadPage, Page, "a", [("choice", "x", items, [])])
                thrown(BadPage, Page, "a", [("choice", "x", [], items)])

    def test_no_item(self):
        wrong = [["text", "x"], ("text",), ("text", "x", "y"), ("name",), ("name", "x", "y"), ("block", "k"),
                 ("block", "k", [], []), ("choice", "x", []), ("choice", "x", [], [], []), ("elder", "k"), "elder",
                 ("texts", "x"), ("Text", "x"), (b"text", "x"), (1, "x"), ([], "x"), (("text",), "x"), ("", "x"),
                 ("block", "k", ()), ("choice", "x", (), []), ("block", "k", {}), ["elder"], ("nam\u00e9", "x")]
        for item in wrong + of_every_kind():
            if item != ("text", "x"):
                thrown(BadPage, Page, "a", [item])
                thrown(BadPage, Page, "a", [t("x"), b("k", item)])
                thrown(BadPage, Page, "a", [c("x", [], [item])])

    def test_elder_within_a_block_alone(self):
        for items in ([b("k", E)], [b("k", c("x", [E], []))], [b("k", c("x", [], [c("y", [], [E])]))],
                      [c("x", [b("k", E)], [])], [b("k", b("l", E), E)]):
            self.assertEqual(Page("a", items).told()[1], items)
        for items in ([E], [c("x", [E], [])], [c("x", [], [E])], [b("k"), E], [c("x", [b("k")], [E])],
                      [c("x", [c("x", [], [E])], [])]):
            thrown(BadPage, Page, "a", items)

    def test_how_many(self):
        full = [[t("x")] * 30, [b("k", *[t("x")] * 29)], [c("x", [t("x")] * 14, [t("x")] * 15)],
                [b("k", *[E] * 14), c("x", [b("l")], [n("x")] * 13)], [b("k", c("x", [E] * 27, [])), t("x")]]
        for items in full:
            self.assertEqual(Page("a", items).told()[1], items)
            thrown(BadPage, Page, "a", items + [t("x")])
            thrown(BadPage, Page, "a", [t("x")] + items)
        thrown(BadPage, Page, "a", [b("k", *[t("x")] * 30)])
        thrown(BadPage, Page, "a", [c("x", [t("x")] * 15, [t("x")] * 15)])
        thrown(BadPage, Page, "a", [b("k", b("l", b("m", *[E] * 28)))])

    def test_how_deep(self):
        for kind in ("block", "first", "second"):
            for many in range(1, 7):
                items = nested(many, kind)
                self.assertEqual(Page("a", items).told()[1], items)
            thrown(BadPage, Page, "a", nested(7, kind))
            thrown(BadPage, Page, "a", nested(8, kind))
        empty = b("f")
        for name in "edcba":
            empty = b(name, empty)
        self.assertEqual(Page("a", [empty]).told()[1], [empty])
        thrown(BadPage, Page, "a", [c("x", [], [empty])])

    def test_what_is_equal_to_everything(self):
        for item in (Same(), (Same(),), (Same(), "x"), (Same(), "k", []), (Same(), "x", [], []), t(Same()), n(Same())):
            thrown(BadPage, Page, "a", [b("k", item)])
        thrown(BadPage, Page, Same(), [])
        thrown(BadPage, Page, "a", Same())
        thrown(BadPage, Page, "a", [], Same())
        thrown(BadBook, Book, Same())
        thrown(BadBook, Book, [Same()])
        thrown(BadName, line_of([]).page, Same())
        thrown(BadHanded, made, line_of([]), "a", Same())
        thrown(BadHanded, made, line_of([]), "a", {Same(): ""})
        thrown(BadHanded, made, line_of([]), "a", {"x": Same()})

    def test_a_list_within_itself(self):
        items = []
        items.append(("choice", "x", items, []))
        thrown(BadPage, Page, "a", items)
        wide = []
        wide.extend([("choice", "x", wide, wide)] * 30)
        thrown(BadPage, Page, "a", wide)

    def test_two_blocks_of_one_name(self):
        for items in ([b("k"), b("k")], [b("k", b("k"))], [b("l", b("k")), b("k")], [c("x", [b("k")], [b("k")])],
                      [c("x", [], [b("k")]), b("l", c("y", [b("m", b("k"))], []))]):
            thrown(BadPage, Page, "a", items)
        same = [b("k"), n("k"), c("k", [n("k")], [b("l")]), n("k")]
        self.assertEqual(Page("k", same).told(), ("k", same, None))


class Books(unittest.TestCase):
    def test_how_many_pages(self):
        thrown(BadBook, Book, [])
        for many in range(1, 7):
            pages = [Page(name, []) for name in "fedcba"[:many]]
            self.assertEqual(Book(pages).names(), list("fedcba"[:many]))
        thrown(BadBook, Book, [Page(name, []) for name in "abcdefg"])

    def test_no_pages(self):
        for pages in of_every_kind() + [Page("a", []), (Page("a", []),), {"a": Page("a", [])}, Page]:
            thrown(BadBook, Book, pages)
        for page in of_every_kind() + [Page, ("a", [], None), Book([Page("a", [])])]:
            thrown(BadBook, Book, [page])
            thrown(BadBook, Book, [Page("a", []), page])

    def test_names(self):
        thrown(BadBook, Book, [Page("a", []), Page("a", [])])
        thrown(BadBook, Book, [Page("a", []), Page("b", []), Page("a", [t("x")], "b")])
        page = Page("a", [])
        thrown(BadBook, Book, [page, page])

    def test_elders(self):
        thrown(BadBook, Book, [Page("a", [], "b")])
        thrown(BadBook, Book, [Page("a", [], "b"), Page("b", [], "c")])
        thrown(BadBook, Book, [Page("a", [], "a")])
        thrown(BadBook, Book, [Page("a", [], "b"), Page("b", [], "a")])
        thrown(BadBook, Book, [Page("a", [], "b"), Page("b", [], "c"), Page("c", [], "b")])
        thrown(BadBook, Book, [Page("d", []), Page("a", [], "b"), Page("b", [], "c"), Page("c", [], "a")])
        ring = [Page(name, [], elder) for name, elder in zip("abcdef", "bcdefa")]
        thrown(BadBook, Book, ring)
        self.assertEqual(Book(ring[:5] + [Page("f", [])]).line("a"), list("abcdef"))

    def test_names_page_line(self):
        book = Book([Page("c", [t("c")]), Page("a", [t("a")], "c"), Page("b", [t("b")], "a"), Page("d", [], "c")])
        self.assertEqual(book.names(), ["c", "a", "b", "d"])
        self.assertEqual([book.line(name) for name in "abcd"], [["a", "c"], ["b", "a", "c"], ["c"], ["d", "c"]])
        self.assertEqual(book.page("b").told(), ("b", [t("b")], "a"))
        self.assertIsInstance(book.page("c"), Page)

    def test_no_name_of_a_page(self):
        book = line_of([t("x")])
        for name in BAD_NAMES + ["b", "aa"] + [each for each in of_every_kind() if each not in ("a",)]:
            thrown(BadName, book.page, name)
            thrown(BadName, book.line, name)
            thrown(BadName, made, book, name, {})

    def test_no_book_has_no_page(self):
        for book in of_every_kind() + [Page("a", []), [Page("a", [])]]:
            thrown(BadName, made, book, "a", {})


if __name__ == "__main__":
    unittest.main()
