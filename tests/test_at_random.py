"""Many small books, made by a seeded chance, against the oracle."""

import random
import unittest

import oracle
from blockpages.answers import Alike, Parted
from blockpages.comparing import changed, compared
from blockpages.errors import BadPage, Endless, TooMany
from blockpages.making import asked, flat, idle, made
from blockpages.pages import Book, Page
from samples import rings_true

NAMES = ["x", "y", "z"]
BLOCKS = ["k", "l", "m", "o"]


class Chance:
    """Makes pages and books; each page has each block's name once at most."""

    def __init__(self, seed):
        self.random = random.Random(seed)

    def items(self, free, deep, inside, most):
        return [self.item(free, deep, inside) for _ in range(self.random.randint(0, most))]

    def item(self, free, deep, inside):
        pick = self.random.random()
        if inside and pick < 0.25:
            return ("elder",)
        if free and deep < 4 and pick < 0.6:
            name = free.pop(self.random.randrange(len(free)))
            return ("block", name, self.items(free, deep + 1, True, 3))
        if deep < 4 and pick < 0.8:
            name = self.random.choice(NAMES)
            return ("choice", name, self.items(free, deep + 1, inside, 2), self.items(free, deep + 1, inside, 2))
        if pick < 0.9:
            return ("name", self.random.choice(NAMES))
        return ("text", self.random.choice(["", "a", "b", "ab", "aa"]))

    def book(self, many):
        pages = []
        for at, name in enumerate("abcdef"[:many]):
            elder = "abcdef"[at + 1] if at + 1 < many else None
            pages.append(self.page(name, elder))
        return Book(pages)

    def page(self, name, elder):
        while True:
            try:
                return Page(name, self.items(list(BLOCKS), 1, False, 4), elder)
            except BadPage:
                continue

    def small_change(self, book):
        """A book with one page anew, its name and elder as they were."""
        try:
            return self.changed_book(book)
        except BadPage:
            return book

    def changed_book(self, book):
        pages = [book.page(name) for name in book.names()]
        at = self.random.randrange(len(pages))
        name, items, elder = pages[at].told()
        pick = self.random.random()
        if pick < 0.4:
            items = self.page(name, elder).told()[1]
        elif items and pick < 0.7:
            items.pop(self.random.randrange(len(items)))
        else:
            items.insert(0, ("choice", self.random.choice(NAMES), [], [("text", "b")]))
        pages[at] = Page(name, items, elder)
        return Book(pages)


def endless(pages):
    try:
        oracle.both_ways(pages)
    except oracle.Round:
        return True
    return False


class AtRandom(unittest.TestCase):
    def test_books(self):
        seen = {"endless": 0, "idle": 0, "asked": 0, "alike": 0, "parted": 0}
        for seed in range(2000):
            chance = Chance(seed)
            book = chance.book(chance.random.randint(1, 5))
            with self.subTest(seed=seed):
                self.one_book(chance, book, seen)
        for kind, many in seen.items():
            self.assertGreater(many, 30, kind)

    def one_book(self, chance, book, seen):
        pages = oracle.pages_of(book, "a")
        if endless(pages):
            self.is_endless(book)
            seen["endless"] += 1
            return
        if oracle.both_ways(pages).count > 400:
            self.assertRaises(TooMany, flat, book, "a")
            return
        self.assertEqual(flat(book, "a").told(), ("a", oracle.both_ways(pages).flat, None))
        self.assertEqual(asked(book, "a"), oracle.asked_of(pages))
        self.assertEqual(idle(book, "a"), oracle.idle_of(pages))
        seen["asked"] += bool(asked(book, "a"))
        seen["idle"] += bool(idle(book, "a"))
        for _ in range(4):
            self.is_made(book, pages, {name: chance.random.choice(["", "a", "pq"]) for name in NAMES})
        self.is_compared(chance, book, pages, seen)

    def is_endless(self, book):
        for call in (flat, asked, idle):
            with self.assertRaises(Endless) as caught:
                call(book, "a")
            self.assertTrue(rings_true(book, "a", caught.exception.ring))

    def is_made(self, book, pages, handed):
        told = made(book, "a", handed)
        self.assertEqual((told.text, told.pieces), oracle.made_of(pages, handed))
        self.assertTrue(told.shows(book, "a", handed))
        flattened = Book([flat(book, "a")])
        self.assertEqual(made(flattened, "a", handed).text, told.text)
        self.assertEqual(asked(flattened, "a"), asked(book, "a"))

    def is_compared(self, chance, book, pages, seen):
        other = chance.small_change(book)
        theirs = oracle.pages_of(other, "a")
        if endless(theirs) or oracle.both_ways(theirs).count > 400:
            return
        fewest = oracle.fewest_of(pages, theirs, ["", "a", "b", "c", "d", "ab", "dd"])
        told = compared(book, "a", other, "a")
        self.assertTrue(told.shows(book, "a", other, "a"))
        if fewest is None:
            seen["alike"] += 1
            self.assertIsInstance(told, Alike)
            return
        seen["parted"] += 1
        self.assertIsInstance(told, Parted)
        names = {name for name, _, _ in asked(book, "a") + asked(other, "a")}
        self.assertEqual(set(told.handed), names)
        self.assertEqual(sum(len(text) for text in told.handed.values()), fewest)
        self.assertNotEqual(made(book, "a", told.handed).text, made(other, "a", told.handed).text)
        self.assertFalse(Alike().shows(book, "a", other, "a"))

    def test_changed(self):
        asked_of = 0
        for seed in range(300):
            chance = Chance(seed)
            book = chance.book(3)
            other = chance.small_change(book)
            if any(endless(oracle.pages_of(one, name)) for one in (book, other) for name in "abc"):
                continue
            asked_of += 1
            with self.subTest(seed=seed):
                unlike = [name for name in "abc" if isinstance(compared(book, name, other, name), Parted)]
                self.assertEqual(changed(book, other), unlike)
        self.assertGreater(asked_of, 50)


if __name__ == "__main__":
    unittest.main()
