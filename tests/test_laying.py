"""Point 3: the line, fillings, laying, endless pages, TooMany."""

import unittest

from blockpages.answers import Alike, Parted
from blockpages.comparing import changed, compared
from blockpages.errors import Endless, TooMany
from blockpages.making import asked, flat, idle, made
from blockpages.pages import Book
from samples import E, b, book_of, c, endless_line, line_of, n, rings_true, t, thrown, wide_line


def text(book, name="a", **handed):
    return made(book, name, handed).text


class Laying(unittest.TestCase):
    def test_each_item(self):
        book = line_of([t("one "), n("x"), c("x", [t("yes")], [t("no")]), b("k", t(" in k"), E, t("!"))])
        self.assertEqual(text(book, x="X"), "one Xyes in k!")
        self.assertEqual(text(book, x=""), "one no in k!")
        self.assertEqual(text(line_of([])), "")
        self.assertEqual(text(line_of([c("x", [], [t("a\nb")])]), x=""), "a\nb")

    def test_a_blank_is_a_sign(self):
        book = line_of([c("x", [t("yes")], [t("no")])])
        self.assertEqual(text(book, x=" "), "yes")
        self.assertEqual(text(book, x="\n"), "yes")

    def test_lines_of_one_to_six_pages(self):
        for many in range(1, 7):
            pages = [[b("k", t("abcdef"[at]), E)] for at in range(many)]
            book = line_of(*pages)
            for at in range(many):
                self.assertEqual(text(book, "abcdef"[at]), "abcdef"[at:many])

    def test_younger_pages_are_no_part_of_the_line(self):
        book = line_of([b("k", t("young"))], [b("k", t("mid"))], [b("k", t("old"))])
        self.assertEqual([text(book, name) for name in "abc"], ["young", "mid", "old"])

    def test_pages_beside_the_line(self):
        book = book_of(("a", [b("k", t("a"), E)], "c"), ("b", [b("k", t("b"), E)], "c"), ("c", [b("k", t("c"))]))
        self.assertEqual([text(book, name) for name in "abc"], ["ac", "bc", "c"])

    def test_items_outside_of_blocks_are_passed_over(self):
        book = line_of([t("p"), n("q"), c("r", [t("s")], [t("u")]), b("k", t("laid"))],
                       [t("v"), c("x", [t("w")], [b("l", t("too"))])],
                       [t("("), b("k"), b("l"), t(")")])
        self.assertEqual(text(book), "(laidtoo)")

    def test_elders(self):
        book = line_of([b("k", E, t("1"), E)], [b("k", t("["), E, t("]"))], [t("-")], [b("k", t("old"))])
        self.assertEqual(text(book), "[old]1[old]")

    def test_elder_of_the_last_filling(self):
        self.assertEqual(text(line_of([b("k", t("x"), E, t("y"))])), "xy")
        self.assertEqual(text(line_of([b("k", E)], [b("k", E, E)])), "")

    def test_fillings_within_blocks_and_choices(self):
        book = line_of([c("x", [b("k", t("first"))], [b("l", t("second"))])],
                       [b("m", c("x", [], [b("n", t("deep"))]))],
                       [b("k"), b("l"), b("n"), b("m", t("m"))])
        self.assertEqual(text(book, x="x"), "firstseconddeep")
        self.assertEqual(text(book, x=""), "firstseconddeepdeep")

    def test_a_filling_at_top_level_for_a_block_deep_within(self):
        book = line_of([b("k", t("new "), E)], [b("o", c("x", [t("x")], [b("m", t("<"), b("k", t("old")), t(">"))]))])
        self.assertEqual(text(book, x=""), "<new old>")

    def test_an_elder_is_the_innermost_blocks(self):
        book = line_of([b("k", b("l", E, t("1")), E)], [b("k", t("k")), b("l", t("l"))])
        self.assertEqual(text(book), "l1kl1")

    def test_an_elder_lays_a_block_filled_by_a_younger_page(self):
        book = line_of([b("k", E), b("l", t("young"))], [b("k", t("("), b("l", t("old")), t(")"))])
        self.assertEqual(text(book), "(young)")

    def test_the_blocks_of_a_replaced_filling_go_with_it(self):
        book = line_of([b("k", t("new"))], [b("k", b("l", t("gone")))])
        self.assertEqual(text(book), "new")

    def test_a_filling_laid_often(self):
        book = line_of([b("k", E, E, E)], [b("k", E, E)], [b("k", t("x")), b("l", t("y"))])
        self.assertEqual(text(book), "xxxxxxy")


class Rings(unittest.TestCase):
    def is_endless(self, book, name="a"):
        for call, more in ((made, ({},)), (flat, ()), (asked, ()), (idle, ())):
            ring = thrown(Endless, call, book, name, *more).ring
            self.assertIsInstance(ring, list)
            for pair in ring:
                self.assertIsInstance(pair, tuple)
            self.assertTrue(rings_true(book, name, ring), ring)
        ring = thrown(Endless, compared, book, name, line_of([]), "a").ring
        self.assertTrue(rings_true(book, name, ring), ring)
        ring = thrown(Endless, compared, line_of([]), "a", book, name).ring
        self.assertTrue(rings_true(book, name, ring), ring)
        thrown(Endless, changed, book, book)
        return set(ring)

    def test_by_blocks_and_elders(self):
        self.assertEqual(self.is_endless(endless_line()), {("m", "a"), ("m", "b"), ("k", "a")})

    def test_the_page_around_which_it_goes_round_is_not_in_the_ring(self):
        book = line_of([b("k", b("m", E))], [b("o", b("p", b("m", b("k"))))])
        self.assertEqual(self.is_endless(book), {("m", "a"), ("m", "b"), ("k", "a")})

    def test_rings_of_three(self):
        book = line_of([b("k", b("l", E)), t("x")], [b("l", b("k"))], [b("k")])
        self.assertEqual(self.is_endless(book), {("k", "a"), ("l", "a"), ("l", "b")})
        book = line_of([b("m", b("k", E))], [b("k", b("m"))])
        self.assertEqual(self.is_endless(book), {("k", "a"), ("k", "b"), ("m", "a")})

    def test_by_choices(self):
        for first in (True, False):
            inner = c("x", [b("k")], []) if first else c("x", [], [b("k")])
            self.is_endless(line_of([b("k", b("m", E))], [b("m", inner)]))
            outer = c("x", [b("m", E)], []) if first else c("x", [], [b("m", E)])
            self.is_endless(line_of([b("k", outer)], [b("m", b("k"))]))
            elder = c("x", [E], []) if first else c("x", [t("y")], [c("x", [E], [])])
            self.is_endless(line_of([b("k", b("m", elder))], [b("m", b("k"))]))
            root = c("x", [b("m", b("k"))], []) if first else c("x", [t("y")], [b("m", b("k"))])
            self.is_endless(line_of([b("k", b("m", E))], [root]))

    def test_choices_are_taken_either_way_even_if_nothing_handed_does(self):
        self.is_endless(line_of([b("k", b("m", E))], [c("x", [c("x", [], [b("m", b("k"))])], [])]))

    def test_a_long_ring(self):
        eldest = [b("k", b("l", b("m", b("o", b("p")))))]
        book = line_of([b("p", b("k", E))], eldest)
        ring = self.is_endless(book)
        self.assertEqual(ring, {("k", "a"), ("k", "b"), ("l", "b"), ("m", "b"), ("o", "b"), ("p", "a")})

    def test_never_come_to(self):
        young = [b("k", b("m", E))]
        self.assertEqual(text(line_of(young, [b("m", b("k"))], [b("o", t("y"))])), "y")
        self.assertEqual(text(line_of([b("o", t("y"))], young, [b("m", b("k"))], [b("o")])), "y")
        self.assertEqual(text(line_of(young, [b("m", b("k"))], [c("x", [t("1")], [t("2")])]), x=""), "2")

    def test_a_filling_twice_but_not_within_itself(self):
        book = line_of([b("k", t("x"))], [b("k"), b("l", b("o")), b("m", t("."))])
        self.assertEqual(text(book), "x.")
        book = line_of([b("l", E, E), b("k", E, E)], [b("l", b("k", t("z")))])
        self.assertEqual(text(book), "zzzz")

    def test_endless_from_one_page_and_not_from_its_elder(self):
        book = endless_line()
        self.assertEqual(text(book, "b"), "")


class HowMany(unittest.TestCase):
    def calls(self, book):
        return [(made, (book, "a", {"x": "", "z": ""})), (flat, (book, "a")), (asked, (book, "a")), (idle, (book, "a")),
                (compared, (book, "a", line_of([]), "a")), (compared, (line_of([]), "a", book, "a"))]

    def too_many(self, book):
        for call, given in self.calls(book):
            thrown(TooMany, call, *given)
        thrown(TooMany, changed, book, book)

    def not_too_many(self, book):
        for call, given in self.calls(book):
            call(*given)

    def test_400_and_401(self):
        self.not_too_many(wide_line(0))
        self.assertEqual(text(wide_line(0)), "x" * 380)
        self.too_many(wide_line(1))

    def test_items_of_choices_are_counted_both(self):
        both = [c("x", [t("y")], [t("z")])] * 7 + [t("w")]
        first = [c("x", [t("y")], [])] * 11
        second = [c("x", [], [n("z")])] * 11
        for items in (both, first, second):
            # 1 block, 8 choices of elders both ways and 1 elder more, and 17 times 22 items.
            young = [b("k", *[c("x", [E], [E])] * 8, E)]
            for more, call in ((0, self.not_too_many), (1, self.too_many)):
                call(line_of(young, [b("k", *items)] + [t("v")] * more))

    def test_elders_that_lay_nothing_are_counted(self):
        for more, call in ((0, self.not_too_many), (1, self.too_many)):
            call(line_of([b("k", *[E] * 19)], [b("k", *[E] * 20)] + [t("y")] * more))

    def test_blocks_are_counted(self):
        for more, call in ((0, self.not_too_many), (1, self.too_many)):
            old = [b("k", *[b(name) for name in "abcdefghijlmnopqrstu"])] + [t("y")] * more
            call(line_of([b("k", *[E] * 19)], old))

    def test_what_is_never_laid_is_not_counted(self):
        book = line_of([b("k", t("x"))], [b("k", *[E] * 29)], [b("k", *[E] * 29)], [b("k", *[t("y")] * 29)])
        self.assertEqual(text(book), "x")

    def test_very_many(self):
        deep = [[b("k", *[E] * 29)] for _ in range(6)]
        self.too_many(line_of(*deep))
        self.assertEqual(text(line_of(*deep), "f"), "")
        thrown(TooMany, made, line_of(*deep), "e", {})
        wide = [[b(name, *[E] * 9) for name in "klm"] for _ in range(5)]
        self.too_many(line_of(*wide, [b("k", b("l", b("m", t("x"))))]))

    def test_a_page_of_more_that_is_endless(self):
        young = [b("k", b("m", E)), b("o", *[E] * 20)]
        old = [b("o", *[t("x")] * 25), b("m", b("k"))]
        thrown(Endless, made, line_of(young, old), "a", {})

    def test_items_deep_within_one_another(self):
        for middle in (False, True):
            book = deep_line(middle)
            flattened = Book([flat(book, "a")])
            self.assertEqual(Book([flat(flattened, "a")]).page("a").told(), flattened.page("a").told())
            for one in (book, flattened):
                self.assertEqual(text(one, x="y"), "end")
                self.assertEqual(text(one, x=""), "" if middle else "end")
                self.assertEqual(asked(one, "a"), [("x", [], [])] if middle else [])
                self.assertEqual(compared(one, "a", line_of([t("end")]), "a").__class__, Parted if middle else Alike)


def deep_line(of_choices):
    """A line of six pages with as many items within one another as blocks, or choices, can lead to.

    Each of 25 rows of six items leads by its last block to the next row, in the page younger
    by one; from the youngest page an elder leads back.
    """
    pages = [[] for _ in range(5)] + [[b(head(0))]]
    for at in range(25):
        page = 4 - at % 5
        inner = [t("end")]
        if at < 24:
            inner = [b(head(at + 1), E) if page == 0 else b(head(at + 1))]
        for step in range(3 if page == 0 and at < 24 else 4):
            inner = [c("x", inner, []) if of_choices else b(head(at) + "abcd"[step], *inner)]
        pages[page].append(b(head(at), *inner))
    return line_of(*pages)


def head(at):
    return "h" + "abcde"[at % 5] + "abcde"[at // 5]


if __name__ == "__main__":
    unittest.main()
