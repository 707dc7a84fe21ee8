"""Point 1: nothing handed in is changed or kept, what is told is new, the first refusal."""

import copy
import unittest

from blockpages.answers import Made, Parted
from blockpages.comparing import changed, compared
from blockpages.errors import (BadHanded, BadName, BadPage, Endless, Lacks, TooMany, Unlike)
from blockpages.making import asked, flat, idle, made
from blockpages.pages import Book, Page
from samples import E, b, c, endless_line, line_of, n, of_every_kind, t, thrown, wide_line

ITEMS = [t("x"), b("k", E, c("x", [t("y"), b("l")], [E])), n("z")]


class HandedIn(unittest.TestCase):
    def test_items_stay_and_are_not_kept(self):
        items = copy.deepcopy(ITEMS)
        page = Page("a", items)
        self.assertEqual(items, ITEMS)
        items[1][2][1][2].append(t("w"))
        items[1][2].pop()
        items.clear()
        self.assertEqual(page.told(), ("a", ITEMS, None))

    def test_items_stay_when_refused(self):
        items = copy.deepcopy(ITEMS) + [b("k")]
        thrown(BadPage, Page, "a", items)
        self.assertEqual(items, ITEMS + [b("k")])

    def test_pages_stay_and_their_list_is_not_kept(self):
        pages = [Page("a", [], "b"), Page("b", [])]
        before = list(pages)
        book = Book(pages)
        self.assertEqual(pages, before)
        pages.clear()
        self.assertEqual(book.names(), ["a", "b"])
        self.assertEqual(book.line("a"), ["a", "b"])

    def test_handed_stays(self):
        book = line_of([c("x", [n("y")], []), n("z")])
        handed = {"x": "1", "y": "2", "z": "3", "w": "4"}
        before = dict(handed)
        told = made(book, "a", handed)
        self.assertTrue(told.shows(book, "a", handed))
        self.assertEqual(handed, before)
        handed["z"] = "5"
        self.assertEqual(told.text, "23")
        lacking = {"z": "3"}
        thrown(Lacks, made, book, "a", lacking)
        self.assertEqual(lacking, {"z": "3"})

    def test_fields_stay_and_are_not_kept(self):
        pieces = [(1, "a", [0, 1]), (2, "b", [])]
        answer = Made("abc", pieces)
        pieces[0][2].append(7)
        pieces.pop()
        self.assertEqual((answer.text, answer.pieces), ("abc", [(1, "a", [0, 1]), (2, "b", [])]))
        handed = {"x": "y"}
        parted = Parted(handed)
        handed["z"] = ""
        self.assertEqual(parted.handed, {"x": "y"})
        self.assertEqual(handed, {"x": "y", "z": ""})


class ToldAnew(unittest.TestCase):
    def setUp(self):
        self.book = line_of(ITEMS, [b("k", n("w"), c("x", [c("y", [n("v")], [])], []))])

    def test_page_and_book(self):
        page = Page("a", ITEMS)
        told = page.told()
        told[1][1][2][1][2].append(t("w"))
        told[1][1][2][1][3].append(t("w"))
        told[1][1][2].clear()
        told[1].append(t("w"))
        self.assertEqual(page.told(), ("a", ITEMS, None))
        self.book.names().append("z")
        self.book.line("a").clear()
        self.book.page("a").told()[1].clear()
        self.assertEqual((self.book.names(), self.book.line("a")), (["a", "b"], ["a", "b"]))
        self.assertEqual(self.book.page("a").told()[1], ITEMS)

    def test_made(self):
        handed = dict.fromkeys("vwxyz", "1")
        told = made(self.book, "a", handed)
        before = copy.deepcopy(told.pieces)
        self.assertGreater(len(before), 2)
        told.pieces[0][2].append(9)
        told.pieces.pop()
        self.assertEqual(made(self.book, "a", handed).pieces, before)

    def test_flat(self):
        before = flat(self.book, "a").told()
        told = flat(self.book, "a").told()
        told[1][-1][2].clear()
        told[1].clear()
        self.assertEqual(flat(self.book, "a").told(), before)
        page = flat(self.book, "a")
        page.told()[1].clear()
        self.assertEqual(page.told(), before)

    def test_asked_and_idle(self):
        before = copy.deepcopy(asked(self.book, "a"))
        told = asked(self.book, "a")
        for _, filled, bare in told:
            filled.append("q")
            bare.append("q")
        told.clear()
        self.assertEqual(asked(self.book, "a"), before)
        lists = [part for row in asked(self.book, "a") for part in row[1:]]
        self.assertEqual(len({id(part) for part in lists}), len(lists))
        before = idle(self.book, "a")
        idle(self.book, "a").append(("a", "q"))
        self.assertEqual(idle(self.book, "a"), before)

    def test_compared_and_changed(self):
        other = line_of([b("k", t("q"))], [b("k")])
        told = compared(self.book, "a", other, "a")
        told.handed.clear()
        self.assertNotEqual(compared(self.book, "a", other, "a").handed, {})
        changed(self.book, other).clear()
        self.assertEqual(changed(self.book, other), ["a", "b"])

    def test_ring(self):
        book = endless_line()
        ring = thrown(Endless, made, book, "a", {}).ring
        before = list(ring)
        ring.clear()
        self.assertEqual(sorted(thrown(Endless, made, book, "a", {}).ring), sorted(before))


class FirstRefusal(unittest.TestCase):
    def test_made(self):
        for handed in of_every_kind():
            thrown(BadName, made, endless_line(), "q", handed)
            thrown(BadName, made, endless_line(), handed if handed != "a" else None, handed)
            if handed != {} and handed != {"a": "x"}:
                thrown(Endless, made, endless_line(), "a", handed)
                thrown(TooMany, made, wide_line(1), "a", handed)
                thrown(BadHanded, made, line_of([n("x")]), "a", handed)
        thrown(Endless, made, endless_line(), "a", {})
        thrown(BadHanded, made, line_of([n("x")]), "a", {"y": "\t"})

    def test_endless_ahead_of_too_many(self):
        young = [b("k", b("m", E)), t("x")]
        old = [b("l", *[E] * 2), b("m", b("k"), *[t("x")] * 20)]
        book = line_of(young, [b("l", *[t("x")] * 28)], [b("l", *[t("x")] * 28)], old)
        for call in (flat, asked, idle):
            thrown(Endless, call, book, "a")
        many = line_of([b("l", *[E] * 29)], [b("l", *[E] * 29)], young, old)
        thrown(Endless, made, many, "a", {})

    def test_flat_asked_idle(self):
        for call in (flat, asked, idle):
            for name in of_every_kind():
                if name != "a":
                    thrown(BadName, call, endless_line(), name)
            thrown(Endless, call, endless_line(), "a")
            thrown(TooMany, call, wide_line(1), "a")

    def test_compared(self):
        good, wide, ring = line_of([t("x")], []), wide_line(1), endless_line()
        nine = line_of([], [n(name) for name in "abcdefghi"])
        for name in of_every_kind():
            if name != "a":
                thrown(BadName, compared, ring, "a", wide, name)
                thrown(BadName, compared, wide, name, ring, "a")
        thrown(Endless, compared, ring, "a", wide, "a")
        thrown(TooMany, compared, wide, "a", ring, "a")
        thrown(Endless, compared, good, "a", ring, "a")
        thrown(TooMany, compared, good, "a", wide, "a")
        thrown(Endless, compared, nine, "a", ring, "a")
        thrown(TooMany, compared, nine, "a", good, "a")

    def test_changed(self):
        ring = endless_line()
        for other in of_every_kind() + [Page("a", []), [Page("a", [])]]:
            thrown(Unlike, changed, ring, other)
            thrown(Unlike, changed, other, ring)
            thrown(Unlike, changed, other, other)
        thrown(Unlike, changed, ring, line_of([]))
        thrown(Unlike, changed, line_of([], [], []), ring)
        thrown(Endless, changed, ring, ring)


if __name__ == "__main__":
    unittest.main()
