"""Point 7: pages compared, books compared."""

import unittest

from blockpages.answers import Alike, Parted
from blockpages.comparing import changed, compared
from blockpages.errors import Endless, TooMany, Unlike
from blockpages.making import asked, made
from blockpages.pages import Book, Page
from samples import E, b, book_of, c, endless_line, line_of, n, t, thrown, wide_line


class Comparing(unittest.TestCase):
    def alike(self, first, second):
        for one, two in ((first, second), (second, first)):
            book, other = line_of(one), book_of(("q", two))
            told = compared(book, "a", other, "q")
            self.assertIs(told.__class__, Alike)
            self.assertTrue(told.shows(book, "a", other, "q"))
            self.assertFalse(Parted({name: "" for name, _, _ in asked(book, "a") + asked(other, "q")})
                             .shows(book, "a", other, "q"))

    def parted(self, first, second, names, fewest):
        for one, two in ((first, second), (second, first)):
            book, other = line_of(one), book_of(("q", two))
            told = compared(book, "a", other, "q")
            self.assertIs(told.__class__, Parted)
            self.assertEqual(sorted(told.handed), sorted(names))
            self.assertEqual(sum(len(text) for text in told.handed.values()), fewest)
            self.assertNotEqual(made(book, "a", told.handed).text, made(other, "q", told.handed).text)
            self.assertTrue(told.shows(book, "a", other, "q"))
            self.assertFalse(Alike().shows(book, "a", other, "q"))

    def test_alike(self):
        self.alike([], [])
        self.alike([], [t(""), b("k")])
        self.alike([t("abc")], [t("a"), b("k", t("b")), t("c")])
        self.alike([n("x")], [c("x", [n("x")], [])])
        self.alike([n("x")], [c("x", [n("x")], [n("x")])])
        self.alike([c("x", [t("a")], [t("a")])], [t("a")])
        self.alike([c("x", [c("y", [t("a")], [])], [])], [c("y", [c("x", [t("a")], [])], [])])
        self.alike([t("a"), n("x"), t("b")], [c("x", [t("a"), n("x")], [t("a")]), t("b")])
        self.alike([c("x", [c("x", [], [t("q")])], [])], [c("y", [], [c("x", [], [])])])
        self.alike([n("x"), n("x")], [c("x", [n("x"), n("x")], [])])

    def test_parted(self):
        self.parted([], [t("x")], "", 0)
        self.parted([t("x")], [t("y")], "", 0)
        self.parted([n("x")], [], "x", 1)
        self.parted([n("x")], [n("y")], "xy", 1)
        self.parted([n("x"), n("y")], [n("y"), n("x")], "xy", 2)
        self.parted([c("x", [], [t("a")])], [], "x", 0)
        self.parted([c("x", [t("a")], [])], [], "x", 1)
        self.parted([c("x", [c("y", [t("a")], [])], [c("y", [t("b")], [])])], [c("y", [t("b")], [])], "xy", 2)
        self.parted([n("x"), n("y"), n("x")], [n("x"), n("x"), n("y")], "xy", 2)

    def test_signs_like_those_of_the_texts(self):
        for sign in "abcdefghijklmnop~ \n":
            self.parted([n("x")], [c("x", [t(sign)], [])], "x", 1)
            self.parted([n("x"), t(sign)], [t(sign), n("x")], "x", 1)
        self.parted([n("x"), n("y")], [c("x", [c("y", [t("ab")], [n("x")])], [n("y")])], "xy", 2)
        self.parted([n("x"), n("y")], [c("x", [c("y", [t("i"), n("y")], [n("x")])], [n("y")])], "xy", 2)
        self.parted([t("abcdefgh"), n("x"), t("i")], [t("abcdefgh"), c("x", [t("a")], []), t("i")], "x", 1)

    def test_names_that_make_no_difference_are_handed_too(self):
        self.parted([c("y", [], []), n("z"), n("x")], [n("z")], "xyz", 1)
        self.parted([t("a"), c("p", [n("q")], [])], [c("r", [], [])], "pqr", 0)
        self.parted([c("x", [c("x", [n("p")], [n("q")])], []), t("a")], [n("z")], "xpz", 0)

    def test_the_fewest_signs(self):
        items = [t("z")]
        for many, name in enumerate("abcde", 1):
            items = [c(name, items, [])]
            self.parted(items, [], "abcde"[:many], many)
        deep = [c("c", [c("d", [c("e", [t("z")], [])], [])], [])]
        self.parted([b("k", c("a", deep, [])), n("f"), n("g")], [n("f"), n("g")], "acdefg", 4)
        self.parted([c("a", [c("b", [t("z")], [])], []), c("c", [], [c("d", [t("z")], [])])], [], "abcd", 1)
        self.parted([c("a", [c("b", [t("z")], [])], []), c("c", [c("d", [c("e", [t("z")], [])], [])], [])], [],
                    "abcde", 2)

    def test_eight_and_nine_names(self):
        eight = [n(name) for name in "abcdefgh"]
        self.alike(eight, [c(name, [n(name)], []) for name in "abcdefgh"])
        self.parted(eight, eight[:6] + eight[:5:-1], "abcdefgh", 2)
        self.parted(eight[:4], eight[4:], "abcdefgh", 1)
        nine = [n(name) for name in "abcdefghi"]
        for one, two in ((nine, []), (nine, nine), (eight, [n("i")]), (nine[:5], nine[3:]),
                         ([c("i", [], [])], eight), (nine, [t("x")])):
            thrown(TooMany, compared, line_of(one), "a", line_of(two), "a")
            thrown(TooMany, compared, line_of(two), "a", line_of(one), "a")
        self.parted(eight + [c("a", [c("a", [], [n("i")])], [])], [t("x")], "abcdefgh", 0)
        self.parted(eight[:5], eight[3:], "abcdefgh", 1)

    def test_all_eight_names_filled(self):
        inner = [t("z")]
        for name in "abcd":
            inner = [c(name, inner, [])]
        young = [b("k", *inner)]
        old = [b("k")]
        for name in "efgh":
            old = [c(name, old, [])]
        book, other = line_of(young, old), line_of([])
        told = compared(book, "a", other, "a")
        self.assertEqual(sorted(told.handed), list("abcdefgh"))
        self.assertEqual([len(text) for text in told.handed.values()], [1] * 8)
        self.assertTrue(told.shows(book, "a", other, "a"))

    def test_pages_of_one_book(self):
        book = line_of([b("k", E, n("x"))], [t("<"), b("k", n("x")), t(">")])
        self.assertIsInstance(compared(book, "a", book, "a"), Alike)
        told = compared(book, "a", book, "b")
        self.assertIsInstance(told, Parted)
        self.assertTrue(told.shows(book, "b", book, "a"))
        self.assertTrue(told.shows(book, "a", book, "b"))
        self.assertFalse(told.shows(book, "a", book, "a"))

    def test_long_pages(self):
        first = line_of([b("k", *[E] * 19)], [b("k", *[n("abcdefgh"[at % 8]) for at in range(20)])])
        self.assertIsInstance(compared(first, "a", first, "a"), Alike)
        items = [n("abcdefgh"[at % 8]) for at in range(19)]
        other = line_of([b("k", *[E] * 19)], [b("k", *items, t("z"))])
        told = compared(first, "a", other, "a")
        self.assertEqual(sum(len(text) for text in told.handed.values()), 0)

    def test_turn_of_the_refusals(self):
        nine = line_of([n(name) for name in "abcdefghi"])
        thrown(Endless, compared, endless_line(), "a", wide_line(1), "a")
        thrown(TooMany, compared, wide_line(1), "a", endless_line(), "a")
        thrown(Endless, compared, nine, "a", endless_line(), "a")


class Changing(unittest.TestCase):
    def test_changed(self):
        book = line_of([b("k", t("1"))], [b("k", t("2"))], [t("<"), b("k"), t(">")])
        self.assertEqual(changed(book, book), [])
        self.assertEqual(changed(book, line_of([b("k", t("1"))], [b("k", t("3"))], [t("<"), b("k"), t(">")])), ["b"])
        self.assertEqual(changed(book, line_of([b("k", t("1"))], [b("k", t("2"))], [t("("), b("k"), t(")")])),
                         ["a", "b", "c"])
        self.assertEqual(changed(book, line_of([], [b("k", t("2"))], [t("<"), b("k"), t(">")])), ["a"])

    def test_another_elder(self):
        book = book_of(("a", [b("k", t("x"))], "b"), ("b", [b("k")]), ("c", [n("y")]))
        other = book_of(("a", [b("k", t("x"))], "c"), ("b", [b("k")]), ("c", [n("y")]))
        self.assertEqual(changed(book, other), ["a"])

    def test_the_turn_of_the_first_book(self):
        pages = [("b", [t("1")]), ("c", [t("2")]), ("a", [t("3")]), ("d", [t("4")])]
        others = [("a", [t("5")]), ("b", [t("6")]), ("c", [t("2"), t("")]), ("d", [t("7")])]
        self.assertEqual(changed(book_of(*pages), book_of(*others)), ["b", "a", "d"])
        self.assertEqual(changed(book_of(*others), book_of(*pages)), ["a", "b", "d"])
        self.assertEqual(changed(book_of(*pages), book_of(*reversed(pages))), [])

    def test_unlike(self):
        book = book_of(("a", []), ("b", []))
        for other in (book_of(("a", [])), book_of(("a", []), ("c", [])), book_of(("a", []), ("b", []), ("c", [])),
                      [Page("a", []), Page("b", [])], Page("a", []), None, Book):
            thrown(Unlike, changed, book, other)
            thrown(Unlike, changed, other, book)

    def test_unlike_ahead_of_all_else(self):
        thrown(Unlike, changed, endless_line(), line_of([]))
        thrown(Unlike, changed, line_of([]), wide_line(1))

    def test_page_by_page_as_compared(self):
        ring = [page.told() for page in map(endless_line().page, "ab")]
        wide = [page.told() for page in map(wide_line(1).page, "ab")]
        ring = [(name + "r", items, elder and elder + "r") for name, items, elder in ring]
        wide = [(name + "w", items, elder and elder + "w") for name, items, elder in wide]
        thrown(Endless, changed, book_of(*ring, *wide), book_of(*ring, *wide))
        thrown(TooMany, changed, book_of(*wide, *ring), book_of(*ring, *wide))
        nine = ("n", [n(name) for name in "abcdefghi"])
        thrown(TooMany, changed, book_of(nine, *ring), book_of(nine, *ring))
        thrown(Endless, changed, book_of(*ring, nine), book_of(nine, *ring))


if __name__ == "__main__":
    unittest.main()
