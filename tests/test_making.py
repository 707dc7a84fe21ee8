"""Points 4, 5 and 6: pages made, flattened, and asked."""

import unittest

from blockpages.errors import BadHanded, BadPage, Lacks
from blockpages.making import asked, flat, idle, made
from blockpages.pages import Book, Page
from samples import E, b, book_of, c, line_of, n, of_every_kind, t, thrown


def pieces(book, name="a", **handed):
    return made(book, name, handed).pieces


class Made(unittest.TestCase):
    def test_pieces_of_texts_and_names(self):
        book = line_of([t("one"), t(""), n("x"), n("y"), t("a\nb")])
        told = made(book, "a", {"x": "four", "y": ""})
        self.assertEqual(told.text, "onefoura\nb")
        self.assertEqual(told.pieces, [(3, "a", [0]), (4, "a", [2]), (3, "a", [4])])
        self.assertEqual(pieces(line_of([])), [])
        self.assertEqual(pieces(line_of([t(""), b("k", n("x"))]), x=""), [])

    def test_kinds(self):
        told = made(line_of([t("x"), b("k", n("x"))]), "a", {"x": "yy"})
        self.assertIs(told.text.__class__, str)
        self.assertIs(told.pieces.__class__, list)
        for many, page, way in told.pieces:
            self.assertEqual((many.__class__, page.__class__, way.__class__), (int, str, list))

    def test_ways_within_choices(self):
        book = line_of([c("x", [t("1"), n("y")], [t("2"), c("y", [t("3")], [t("4"), t("5")])])])
        self.assertEqual(pieces(book, x="q", y="w"), [(1, "a", [0, 0]), (1, "a", [0, 1])])
        self.assertEqual(pieces(book, x="", y="w"), [(1, "a", [0, 2]), (1, "a", [0, 3, 0])])
        self.assertEqual(pieces(book, x="", y=""), [(1, "a", [0, 2]), (1, "a", [0, 3, 1]), (1, "a", [0, 3, 2])])
        self.assertEqual(pieces(line_of([c("x", [], [t("2")])]), x=""), [(1, "a", [0, 0])])

    def test_ways_within_blocks_and_fillings(self):
        young = [t("-"), c("x", [t("-")], [b("k", t("new"), E, t("!"))])]
        old = [t(">"), b("o", t("o"), b("k", n("y"), t("old")))]
        self.assertEqual(pieces(line_of(young, old), y="yy"), [
            (1, "b", [0]), (1, "b", [1, 0]), (3, "a", [1, 1, 0]), (2, "b", [1, 1, 0]), (3, "b", [1, 1, 1]),
            (1, "a", [1, 1, 2])])

    def test_ways_of_a_choice_within_a_filling(self):
        book = line_of([b("k", t(""), c("x", [t("1")], [E, t("2")]))], [b("k", c("x", [], [t("3")]))])
        self.assertEqual(pieces(book, x=""), [(1, "b", [0, 0, 0]), (1, "a", [0, 1, 2])])

    def test_handed_and_not_asked_for(self):
        book = line_of([n("x"), c("y", [n("z")], [])])
        self.assertEqual(made(book, "a", {"w": "w", "x": "x", "y": "", "abcdefgh": "\n"}).text, "x")
        self.assertEqual(made(book, "a", {"y": "", "x": ""}).text, "")
        self.assertEqual(made(line_of([t("t")]), "a", {}).text, "t")
        self.assertEqual(made(line_of([n("x")]), "a", {"x": "x" * 60}).text, "x" * 60)

    def lacking(self, book, handed):
        return thrown(Lacks, made, book, "a", handed).name

    def test_the_first_lacking_name(self):
        book = line_of([n("x"), c("y", [n("z")], [n("w")]), b("k", n("v"))], [])
        book = Book([Page("a", book.page("a").told()[1])])
        self.assertEqual(self.lacking(book, {}), "x")
        self.assertEqual(self.lacking(book, {"z": "", "w": "", "v": ""}), "x")
        self.assertEqual(self.lacking(book, {"x": ""}), "y")
        self.assertEqual(self.lacking(book, {"x": "", "y": "", "z": ""}), "w")
        self.assertEqual(self.lacking(book, {"x": "", "y": "y", "w": ""}), "z")
        self.assertEqual(self.lacking(book, {"x": "", "y": "y", "z": ""}), "v")
        self.assertEqual(made(book, "a", {"x": "", "y": "y", "z": "", "v": "v"}).text, "v")
        self.assertEqual(self.lacking(line_of([c("x", [], [])]), {}), "x")
        self.assertEqual(self.lacking(line_of([b("k", n("z"))], [b("k"), n("a")]), {}), "z")

    def test_no_dict_of_names_and_texts(self):
        book = line_of([n("x")])
        for handed in of_every_kind():
            if handed not in ({}, {"a": "x"}):
                thrown(BadHanded, made, book, "a", handed)
        for name in ("", "abcdefghi", "X", "x1", "x ", "\u00e9", None, True, 1, b"x", ("x",), len, frozenset("x")):
            thrown(BadHanded, made, book, "a", {"x": "", name: ""})
            thrown(BadHanded, made, book, "a", {name: ""})
        for text in ["x" * 61, "\t", "\x7f", "\u00e9", "x\r\n"] + [each for each in of_every_kind()
                                                                 if each not in ("", "a", "A", "no such")]:
            thrown(BadHanded, made, book, "a", {"x": text})
            thrown(BadHanded, made, book, "a", {"x": "", "y": text})
            thrown(BadHanded, made, line_of([t("x")]), "a", {"y": text})

    def test_bad_handed_ahead_of_lacks(self):
        thrown(BadHanded, made, line_of([n("x")]), "a", {"y": 1})


class Flat(unittest.TestCase):
    def test_name_elder_items(self):
        young = [t("-"), b("k", t("1"), t(""), E, t("2"))]
        old = [n("y"), c("x", [b("k", n("z"))], [b("l", c("y", [], [E]))]), t(""), t("a"), t("b"), b("m")]
        book = line_of(young, old)
        page = flat(book, "a")
        self.assertIs(page.__class__, Page)
        inner = [t("1"), t(""), n("z"), t("2")]
        self.assertEqual(page.told(), ("a", [n("y"), c("x", inner, [c("y", [], [])]), t(""), t("a"), t("b")], None))
        self.assertEqual(flat(book, "b").told(),
                         ("b", [n("y"), c("x", [n("z")], [c("y", [], [])]), t(""), t("a"), t("b")], None))
        self.assertEqual(book.page("a").told(), ("a", young, "b"))

    def test_choices_that_nothing_handed_takes_stay(self):
        items = [c("x", [c("x", [t("1")], [t("2")])], [])]
        self.assertEqual(flat(line_of(items), "a").told()[1], items)

    def test_the_same_made_and_asked(self):
        book = line_of([b("k", c("x", [E], [n("y")]), E)], [t("<"), b("k", n("z"), c("y", [t("q")], [])), t(">")])
        flattened = Book([Page("b", []), flat(book, "a")])
        self.assertEqual(asked(flattened, "a"), asked(book, "a"))
        self.assertEqual(idle(flattened, "a"), [])
        for handed in ({"x": x, "y": y, "z": "z"} for x in ("", "x") for y in ("", "y")):
            told, plain = made(book, "a", handed), made(flattened, "a", handed)
            self.assertEqual(plain.text, told.text)
            self.assertEqual([many for many, _, _ in plain.pieces], [many for many, _, _ in told.pieces])
            self.assertEqual({page for _, page, _ in plain.pieces}, {"a"})
        for handed in ({}, {"x": ""}, {"x": "x"}, {"x": "", "y": ""}, {"x": "", "y": "y"}):
            self.assertEqual(thrown(Lacks, made, book, "a", handed).name,
                             thrown(Lacks, made, flattened, "a", handed).name)

    def test_beyond_the_limits_of_pages_and_within_another_book(self):
        book = line_of([b("k", *[E] * 19)], [b("k", *[t("x")] * 20)])
        page = flat(book, "a")
        self.assertEqual(page.told(), ("a", [t("x")] * 380, None))
        thrown(BadPage, Page, *page.told())
        other = Book([Page("c", [b("k", t("y"))], "a"), page, Page("b", [])])
        self.assertEqual((other.names(), other.line("c")), (["c", "a", "b"], ["c", "a"]))
        self.assertEqual(made(other, "c", {}).text, "x" * 380)
        self.assertEqual(made(other, "a", {}).pieces, [(1, "a", [at]) for at in range(380)])
        self.assertEqual(flat(other, "a").told(), page.told())
        self.assertEqual(flat(other, "c").told(), ("c", [t("x")] * 380, None))
        self.assertEqual(idle(other, "c"), [("c", "k")])


class Asked(unittest.TestCase):
    def test_names_and_choices(self):
        self.assertEqual(asked(line_of([]), "a"), [])
        self.assertEqual(asked(line_of([t("x"), b("k", t("y"))]), "a"), [])
        self.assertEqual(asked(line_of([n("z"), c("x", [], []), n("a"), n("x"), n("z")]), "a"),
                         [("z", [], []), ("x", [], []), ("a", [], [])])

    def test_what_must_and_must_not_have_signs(self):
        book = line_of([c("z", [c("m", [n("p")], [n("q")])], [c("b", [], [c("a", [n("r")], [n("s")])])])])
        self.assertEqual(asked(book, "a"), [
            ("z", [], []), ("m", ["z"], []), ("p", ["m", "z"], []), ("q", ["z"], ["m"]),
            ("b", [], ["z"]), ("a", [], ["b", "z"]), ("r", ["a"], ["b", "z"]), ("s", [], ["a", "b", "z"])])

    def test_rising(self):
        items = [n("q")]
        for name in ("c", "e", "a", "d", "b"):
            items = [c(name, items, [])] if name in "ced" else [c(name, [], items)]
        self.assertEqual(asked(line_of(items), "a")[-1], ("q", ["c", "d", "e"], ["a", "b"]))

    def test_an_item_ahead_of_those_within_it(self):
        book = line_of([c("x", [n("y")], [n("w")]), n("y"), n("v")])
        self.assertEqual(asked(book, "a"), [("x", [], []), ("y", ["x"], []), ("w", [], ["x"]), ("v", [], [])])

    def test_by_the_first_item_that_can_be_come_to(self):
        book = line_of([c("x", [c("x", [], [n("y"), n("w")])], []), c("z", [], [n("y")]), n("y")])
        self.assertEqual(asked(book, "a"), [("x", [], []), ("z", [], []), ("y", [], ["z"])])

    def test_choices_of_the_same_name(self):
        book = line_of([c("x", [c("x", [n("p")], [n("q")])], [c("y", [c("x", [n("r")], [n("s")])], [])])])
        self.assertEqual(asked(book, "a"), [("x", [], []), ("p", ["x"], []), ("y", [], ["x"]), ("s", ["y"], ["x"])])

    def test_names_within_choices_of_their_own_name(self):
        self.assertEqual(asked(line_of([c("x", [n("x")], [n("x")])]), "a"), [("x", [], [])])
        book = line_of([c("y", [], [c("x", [n("y")], [])])])
        self.assertEqual(asked(book, "a"), [("y", [], []), ("x", [], ["y"])])

    def test_in_the_order_of_the_flattened_page(self):
        book = line_of([n("no"), b("l", n("two"), E), b("k", n("one"))],
                       [b("k", n("never")), c("x", [b("l", n("three"))], []), n("four")])
        self.assertEqual(asked(book, "a"), [("one", [], []), ("x", [], []), ("two", ["x"], []), ("three", ["x"], []),
                                            ("four", [], [])])

    def test_what_is_not_laid_is_not_asked_for(self):
        book = line_of([n("p"), c("q", [], []), b("k")], [b("k", n("r"))])
        self.assertEqual(asked(book, "a"), [])
        self.assertEqual(asked(book, "b"), [("r", [], [])])


class Idle(unittest.TestCase):
    def test_none(self):
        self.assertEqual(idle(line_of([]), "a"), [])
        self.assertEqual(idle(line_of([b("k", E)], [b("k"), b("l", b("m"))]), "a"), [])

    def test_page_by_page_from_the_youngest(self):
        book = book_of(("a", [b("k"), b("z")]), ("b", [b("y", b("k")), b("x")], "c"), ("c", [b("z"), b("k")], "a"),
                       ("d", [b("q")], "a"))
        self.assertEqual(idle(book, "b"), [("b", "y"), ("b", "x"), ("c", "k"), ("a", "k"), ("a", "z")])
        self.assertEqual(idle(book, "c"), [("a", "k"), ("a", "z")])
        self.assertEqual(idle(book, "a"), [])

    def test_a_block_ahead_of_those_within_it(self):
        book = line_of([t("x"), b("p", b("o"), c("x", [b("n")], [b("m"), b("l")])), c("y", [b("k")], [b("j")])], [])
        self.assertEqual(idle(book, "a"), [("a", name) for name in "ponmlkj"])

    def test_never_laid_whatever_is_handed(self):
        book = line_of([c("x", [c("x", [b("k")], [b("l", b("m"))]), b("n")], [c("y", [c("x", [b("o")], [])], [])])])
        self.assertEqual(idle(book, "a"), [("a", "l"), ("a", "m"), ("a", "o")])

    def test_laid_by_one_choice_alone(self):
        book = line_of([b("k", c("x", [], [c("y", [E], [])]))], [b("k", b("l"))])
        self.assertEqual(idle(book, "a"), [])
        book = line_of([b("k", c("x", [], [c("x", [E], [])]))], [b("k", b("l"))])
        self.assertEqual(idle(book, "a"), [("b", "k"), ("b", "l")])

    def test_what_a_younger_filling_hides(self):
        book = line_of([b("k", t("x"))], [b("k", E, b("l"))], [b("k"), b("l", E)])
        self.assertEqual(idle(book, "a"), [("b", "k"), ("c", "k"), ("c", "l")])

    def test_an_empty_filling_is_laid(self):
        self.assertEqual(idle(line_of([b("k")], [b("k")]), "a"), [("b", "k")])


if __name__ == "__main__":
    unittest.main()
