"""The answers: their fields and what they show."""

import unittest

from blockpages.answers import Alike, Answer, Made, Parted
from blockpages.comparing import compared
from blockpages.making import made
from samples import E, b, book_of, c, line_of, n, t


class Family(unittest.TestCase):
    def test_straight_under_answer(self):
        for kind in (Made, Alike, Parted):
            self.assertEqual(kind.__bases__, (Answer,))
            self.assertIn("shows", vars(kind))

    def test_fields(self):
        self.assertEqual(vars(Made("x", [(1, "a", [0])])), {"text": "x", "pieces": [(1, "a", [0])]})
        self.assertEqual(vars(Made(pieces=[], text="")), {"text": "", "pieces": []})
        self.assertEqual(vars(Parted(handed={"x": "y"})), {"handed": {"x": "y"}})
        self.assertEqual(vars(Alike()), {})

    def test_fields_are_copies(self):
        pieces = [(1, "a", [0])]
        told = Made("x", pieces)
        self.assertIsNot(told.pieces, pieces)
        self.assertIsNot(told.pieces[0][2], pieces[0][2])
        told.pieces[0][2].append(1)
        self.assertEqual(pieces, [(1, "a", [0])])
        handed = {"x": "y"}
        Parted(handed).handed.clear()
        self.assertEqual(handed, {"x": "y"})


class MadeShows(unittest.TestCase):
    def setUp(self):
        self.book = line_of([b("k", t("in"), E)], [t("<"), b("k", n("x")), c("x", [], [t("bare")]), t(">")])
        self.right = [(1, "b", [0]), (2, "a", [0, 0]), (1, "b", [1, 0]), (1, "b", [3])]

    def shows(self, text, pieces):
        told = Made(text, pieces).shows(self.book, "a", {"x": "x", "y": "unasked"})
        self.assertIs(told.__class__, bool)
        return told

    def test_right(self):
        self.assertTrue(self.shows("<inx>", self.right))
        self.assertTrue(made(self.book, "a", {"x": ""}).shows(self.book, "a", {"x": ""}))
        self.assertTrue(Made("", []).shows(line_of([]), "a", {}))

    def test_wrong(self):
        for text in ("", "<inx", "<inx>>", "<iny>", "<INX>"):
            self.assertFalse(self.shows(text, self.right))
        wrong = [[], self.right[1:], self.right[:-1], self.right[::-1], self.right + [(0, "b", [4])],
                 self.right[:3] + [(1, "b", [4])], self.right[:3] + [(1, "a", [3])], self.right[:3] + [(2, "b", [3])],
                 self.right[:3] + [(1, "b", [3, 0])], self.right[:3] + [(1, "b", [])],
                 [(3, "b", [0])] + self.right[2:], self.right + self.right[:1]]
        for pieces in wrong:
            self.assertFalse(self.shows("<inx>", pieces))

    def test_truths_are_no_numbers(self):
        self.assertFalse(self.shows("<inx>", [(True, "b", [0])] + self.right[1:]))
        self.assertFalse(self.shows("<inx>", [(1, "b", [False])] + self.right[1:]))

    def test_other_things_asked(self):
        told = made(self.book, "a", {"x": "x"})
        self.assertFalse(told.shows(self.book, "a", {"x": "y"}))
        self.assertFalse(told.shows(self.book, "a", {"x": ""}))
        self.assertFalse(told.shows(self.book, "b", {"x": "x"}))
        self.assertFalse(told.shows(line_of([t("<inx>")]), "a", {"x": "x"}))

    def test_fields_as_they_stand_then(self):
        told = made(self.book, "a", {"x": "x"})
        told.text = "<iny>"
        self.assertFalse(told.shows(self.book, "a", {"x": "x"}))
        told.text = "<inx>"
        self.assertTrue(told.shows(self.book, "a", {"x": "x"}))
        told.pieces[0][2].append(1)
        self.assertFalse(told.shows(self.book, "a", {"x": "x"}))
        told.pieces[0][2].pop()
        self.assertTrue(told.shows(self.book, "a", {"x": "x"}))
        told.pieces = told.pieces[1:]
        self.assertFalse(told.shows(self.book, "a", {"x": "x"}))


class AlikeShows(unittest.TestCase):
    def test_alike(self):
        book = line_of([n("x"), t("")], [t("x")])
        other = book_of(("q", [c("y", [], []), t("x")]), ("a", [n("y")]))
        self.assertIs(Alike().shows(book, "a", other, "q"), True)
        self.assertIs(Alike().shows(other, "q", book, "b"), True)
        self.assertIs(Alike().shows(book, "a", other, "a"), False)
        self.assertIs(Alike().shows(other, "q", other, "a"), False)


class PartedShows(unittest.TestCase):
    def setUp(self):
        self.book = line_of([n("x"), n("y"), c("z", [], [])])
        self.other = book_of(("q", [n("y"), n("x")]))

    def shows(self, handed):
        told = Parted(handed).shows(self.book, "a", self.other, "q")
        self.assertIs(told.__class__, bool)
        return told

    def test_any_such_texts(self):
        for one, two in (("a", "b"), ("b", "a"), (" ", "\n"), ("~", "x"), ("y", "x")):
            self.assertTrue(self.shows({"x": one, "y": two, "z": ""}))
            self.assertTrue(self.shows({"z": "", "y": one, "x": two}))
        self.assertTrue(Parted({}).shows(line_of([t("x")]), "a", line_of([]), "a"))

    def test_made_alike(self):
        for one, two in (("", ""), ("a", ""), ("", "b"), ("a", "a"), ("aa", "a")):
            self.assertFalse(self.shows({"x": one, "y": two, "z": ""}))
        self.assertFalse(Parted({}).shows(line_of([t("x")]), "a", line_of([t("x"), t("")]), "a"))
        self.assertFalse(Parted({"x": "x"}).shows(line_of([n("x")]), "a", line_of([n("x")]), "a"))

    def test_more_signs_than_there_must_be(self):
        for texts in (("ab", "c", ""), ("a", "bc", ""), ("a", "b", "c"), ("x" * 60, "y", ""), ("a", "b" * 61, "")):
            self.assertFalse(self.shows(dict(zip("xyz", texts))))

    def test_names_more_and_fewer(self):
        right = {"x": "a", "y": "b", "z": ""}
        self.assertTrue(self.shows(right))
        for name in right:
            self.assertFalse(self.shows({each: right[each] for each in right if each != name}))
        for name in ("w", "xx", "a", "q"):
            self.assertFalse(self.shows({**right, name: ""}))
            self.assertFalse(self.shows({"x": "a", "y": "b", name: ""}))
        self.assertFalse(self.shows({}))
        self.assertFalse(Parted({"x": ""}).shows(line_of([t("x")]), "a", line_of([]), "a"))

    def test_names_that_cannot_be_asked_for(self):
        book = line_of([c("x", [c("x", [], [n("y")])], []), t("t")])
        self.assertTrue(Parted({"x": ""}).shows(book, "a", line_of([]), "a"))
        self.assertFalse(Parted({"x": "", "y": ""}).shows(book, "a", line_of([]), "a"))

    def test_fields_as_they_stand_then(self):
        told = compared(self.book, "a", self.other, "q")
        given = (self.book, "a", self.other, "q")
        self.assertTrue(told.shows(*given))
        told.handed["z"] = "z"
        self.assertFalse(told.shows(*given))
        told.handed["z"] = ""
        self.assertTrue(told.shows(*given))
        told.handed["w"] = ""
        self.assertFalse(told.shows(*given))
        del told.handed["w"]
        told.handed["x"] = told.handed["y"]
        self.assertFalse(told.shows(*given))
        told.handed = {"x": "1", "y": "2", "z": ""}
        self.assertTrue(told.shows(*given))


if __name__ == "__main__":
    unittest.main()
