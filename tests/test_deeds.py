"""Deeds, undo, blocks and what is done in them [123]; a book after any deeds is as one made anew [12]."""

import random

from oddfigures.book import Book
from oddfigures.errors import NothingToUndo, NotWritten, UnknownName
from oddfigures.schemes import Scheme, plain_scheme
from tests.book_model import ModelBook, all_told, outcome
from tests.test_book import BookChecks, some_book
from tests.values import signed

PLAIN = plain_scheme(2)


class Stop(BaseException):
    """An exception that is no error of the package."""


class UndoTest(BookChecks):
    def test_each_deed_is_taken_back(self):
        book = some_book()
        deeds = [
            lambda: book.keep("d", PLAIN), lambda: book.put("e", "d", 1), lambda: book.put("e", "naf", 2),
            lambda: book.lay("a", "d", (0, 0, 1)), lambda: book.move("e", "plain"),
            lambda: book.reckon("b", "naf", [(-2, "b")]),
            lambda: book.drop("a"), lambda: book.drop("d"), lambda: book.keep("a", signed()), lambda: book.drop("e"),
        ]
        told = [all_told(book)]
        for deed in deeds:
            self.assertIsNone(deed())
            told.append(all_told(book))
            self.assertEqual(book.deeds(), len(told) + 5)
        for before in told[-2::-1]:
            self.assertIsNone(book.undo())
            self.assertEqual(all_told(book), before)

    def test_down_to_the_empty_book(self):
        book = some_book()
        for _ in range(6):
            book.undo()
        self.assertEqual([book.schemes(), book.entries(), book.deeds()], [[], [], 0])
        self.assertIs(book == Book(), True)
        for _ in range(3):
            with self.assertRaises(NothingToUndo):
                book.undo()
        self.assertEqual(book.deeds(), 0)
        book.keep("p", PLAIN)
        self.assertEqual([book.schemes(), book.deeds()], [["p"], 1])

    def test_deeds_that_change_nothing_else(self):
        book = some_book()
        before = all_told(book)
        book.put("b", "naf", -7)
        self.assertEqual(book.deeds(), 7)
        self.assertIs(book == some_book(), True)
        book.undo()
        self.assertEqual(all_told(book), before)

    def test_what_fails_is_no_deed(self):
        book = some_book()
        for call, given in [
            (book.keep, ("a", PLAIN)), (book.put, ("a", "plain", -1)), (book.lay, ("a", "plain", (2,))),
            (book.move, ("b", "plain")),
            (book.reckon, ("a", "plain", [(1, "b")])), (book.drop, ("plain",)), (book.surely, ("none", [])),
            (book.writers, ("none",)),
        ]:
            before = all_told(book)
            self.assertIsInstance(outcome(call, *given), tuple)
            self.assertEqual(all_told(book), before)
        book.undo()
        self.assertEqual(book.entries(), ["a", "b"])

    def test_questions_are_no_deeds(self):
        book = some_book()
        all_told(book)
        book.surely("plain", [(1, "a")])
        self.assertEqual(["a" in book, book == some_book(), book.deeds()], [True, True, 6])


class BlockTest(BookChecks):
    def test_a_block_that_ends_without_an_exception(self):
        book = some_book()
        with book.block():
            book.put("d", "plain", 3)
            book.drop("a")
        self.assertEqual([book.entries(), book.deeds()], [["b", "c", "d"], 8])
        book.undo()
        self.assertEqual(book.entries(), ["a", "b", "c", "d"])
        with book.block():
            for _ in range(3):
                book.undo()
        self.assertEqual([book.entries(), book.deeds()], [["a"], 4])

    def test_a_block_that_ends_with_an_exception(self):
        for error in (NotWritten, ValueError, Stop, KeyError):
            book = some_book()
            before = all_told(book)
            with self.assertRaises(error):
                with book.block():
                    book.put("d", "plain", 3)
                    book.drop("a")
                    if error is NotWritten:
                        book.put("e", "plain", -1)
                    raise error()
            self.assertEqual(all_told(book), before)
            book.undo()
            self.assertEqual(book.entries(), ["a", "b"])

    def test_the_exception_goes_on_itself(self):
        book = some_book()
        error = Stop("just this one")
        with self.assertRaises(Stop) as caught:
            with book.block():
                raise error
        self.assertIs(caught.exception, error)

    def test_undo_beyond_the_beginning(self):
        book = some_book()
        before = all_told(book)
        with self.assertRaises(Stop):
            with book.block():
                for _ in range(6):
                    book.undo()
                book.keep("z", PLAIN)
                raise Stop()
        self.assertEqual(all_told(book), before)
        for number in range(6):
            self.assertEqual(book.deeds(), 6 - number)
            book.undo()
        self.assertIs(book == Book(), True)

    def test_what_was_done_before_can_be_taken_back_behind_it(self):
        book = some_book()
        for fails in (True, False, True):
            try:
                with book.block():
                    book.undo()
                    book.put("c", "naf", 11)
                    book.put("d", "naf", 12)
                    if fails:
                        raise Stop()
            except Stop:
                pass
        self.assertEqual([book.number_of("c"), book.number_of("d"), book.deeds()], [11, 12, 7])
        book.undo()
        book.undo()
        self.assertEqual([book.entries(), book.deeds()], [["a", "b"], 5])

    def test_blocks_within_blocks(self):
        for inner_fails in (True, False):
            for outer_fails in (True, False):
                book = some_book()
                before = all_told(book)
                try:
                    with book.block():
                        book.put("d", "plain", 1)
                        try:
                            with book.block():
                                book.undo()
                                book.undo()
                                book.put("e", "plain", 2)
                                if inner_fails:
                                    raise Stop()
                        except Stop:
                            pass
                        book.put("f", "plain", 3)
                        if outer_fails:
                            raise Stop()
                except Stop:
                    self.assertTrue(outer_fails)
                if outer_fails:
                    self.assertEqual(all_told(book), before)
                elif inner_fails:
                    self.assertEqual([book.entries(), book.deeds()], [["a", "b", "c", "d", "f"], 8])
                else:
                    self.assertEqual([book.entries(), book.deeds()], [["a", "b", "e", "f"], 7])

    def test_many_blocks_deep(self):
        book = some_book()
        before = all_told(book)

        def deeper(depth):
            with book.block():
                book.put("d", "plain", depth)
                if depth == 40:
                    raise Stop()
                deeper(depth + 1)

        with self.assertRaises(Stop):
            deeper(0)
        self.assertEqual(all_told(book), before)

    def test_the_beginning_is_where_it_was_entered(self):
        book = Book()
        block = book.block()
        book.keep("p", PLAIN)
        with self.assertRaises(Stop):
            with block:
                book.keep("q", PLAIN)
                raise Stop()
        self.assertEqual([book.schemes(), book.deeds()], [["p"], 1])
        # Blocks of other books have nothing to do with it.
        other = some_book()
        with self.assertRaises(Stop):
            with book.block():
                other.put("d", "plain", 1)
                raise Stop()
        self.assertEqual(other.deeds(), 7)

    def test_an_exception_that_is_caught_in_the_block(self):
        book = some_book()
        with book.block():
            book.put("d", "plain", 1)
            try:
                book.put("e", "plain", -1)
            except NotWritten:
                book.put("f", "plain", 1)
        self.assertEqual(book.entries(), ["a", "b", "c", "d", "f"])

    def test_leaving_a_block_by_return(self):
        book = some_book()

        def leave():
            with book.block():
                book.put("d", "plain", 1)
                return "left"

        self.assertEqual(leave(), "left")
        self.assertEqual(book.number_of("d"), 1)


class DoneTest(BookChecks):
    def test_what_the_action_returns(self):
        book = some_book()
        for worth in (None, 0, "", [1], (None,), True):
            self.assertIs(book.done(lambda: worth), worth)
            self.assertIs(book.done(lambda: worth, False), worth)
        self.assertEqual(book.done(book.deeds), 6)

    def test_kept_or_put_back(self):
        book = some_book()
        before = all_told(book)
        action = lambda: [book.undo(), book.undo(), book.put("d", "naf", -1), book.entries()]
        self.assertEqual(book.done(action, keep=False), [None, None, None, ["a", "d"]])
        self.assertEqual(all_told(book), before)
        self.assertEqual(book.done(action, False), [None, None, None, ["a", "d"]])
        self.assertEqual(all_told(book), before)
        self.assertEqual(book.done(action=action, keep=True), [None, None, None, ["a", "d"]])
        self.assertEqual([book.entries(), book.deeds()], [["a", "d"], 5])
        book.done(lambda: book.put("e", "naf", 4))
        self.assertEqual([book.entries(), book.deeds()], [["a", "d", "e"], 6])

    def test_an_action_that_fails(self):
        book = some_book()
        before = all_told(book)

        def action():
            book.drop("a")
            book.undo()
            book.undo()
            book.row_of("c")

        for given in ((), (True,), (False,)):
            with self.assertRaises(UnknownName) as caught:
                book.done(action, *given)
            self.assertEqual(caught.exception.name, "c")
            self.assertEqual(all_told(book), before)

    def test_one_within_another(self):
        book = some_book()
        before = all_told(book)

        def inner():
            book.put("d", "naf", 1)
            return book.entries()

        def outer(keep):
            return [book.drop("a"), book.done(inner, keep=keep), book.entries()]

        self.assertEqual(book.done(lambda: outer(False), keep=False), [None, ["b", "c", "d"], ["b", "c"]])
        self.assertEqual(all_told(book), before)
        self.assertEqual(book.done(lambda: outer(True), keep=False), [None, ["b", "c", "d"], ["b", "c", "d"]])
        self.assertEqual(all_told(book), before)
        self.assertEqual(book.done(lambda: outer(False)), [None, ["b", "c", "d"], ["b", "c"]])
        self.assertEqual([book.entries(), book.deeds()], [["b", "c"], 7])


SCHEMES = [
    PLAIN, signed(), plain_scheme(-2), plain_scheme(3), Scheme(2, [0, 1], bars=[(1, 1)]), Scheme(3, [0, 1, 5]),
    Scheme(2, [0]),
]
WORDS = ["a", "b", "c", "d", "e", "f"]


class AnyDeedsTest(BookChecks):
    """Drawn sequences of deeds, against a slow model and a book that is made anew [12]."""

    def some_deed(self, chance):
        """The name of a method and what it is given, right or wrong."""
        name, where = chance.choice(WORDS), chance.choice(WORDS)
        if chance.random() < 0.05:
            name = chance.choice(["", "A", None, 7, "abcdefghi"])
        if chance.random() < 0.05:
            where = chance.choice(["", "nothing", None, ()])
        terms = [(chance.choice((-2, -1, 1, 2, 2, 1, 0)), chance.choice(WORDS)) for _ in range(chance.choice((1, 2, 2,
            1, 3)))]
        return chance.choice([
            ("keep", (name, chance.choice(SCHEMES))), ("put", (name, where, chance.randint(-9, 60))),
            ("put", (name, where, chance.randint(0, 9))), ("lay",
                (name, where, chance.choice([(), (1,), (1, 0), (1, 0, 1), (0, 0)]))),
            ("move", (name, where)), ("reckon", (name, where, terms)), ("drop", (name,)), ("undo", ()), ("undo", ()),
        ])

    def check_equal_to_the_model(self, book, model):
        self.assertEqual(all_told(book), model.told())

    def do(self, chance, book, model, depth, done):
        """Do some deeds with both, blocks among them, and list those that are in force."""
        for _ in range(chance.randint(1, 8)):
            if depth < 3 and chance.random() < 0.2:
                self.do_a_block(chance, book, model, depth, done)
                continue
            method, given = self.some_deed(chance)
            one = outcome(getattr(book, method), *given)
            self.assertEqual(one, outcome(getattr(model, method), *given), (method, given))
            if one is None and method == "undo":
                done.pop()
            elif one is None:
                done.append((method, given))
            self.check_equal_to_the_model(book, model)

    def do_a_block(self, chance, book, model, depth, done):
        saved, listed = model.saved(), list(done)
        how = chance.choice(("kept", "fails", "put back", "fails in done", "kept by done"))
        try:
            if how in ("kept", "fails"):
                with book.block():
                    self.do(chance, book, model, depth + 1, done)
                    if how == "fails":
                        raise Stop()
            else:
                def action():
                    self.do(chance, book, model, depth + 1, done)
                    if how == "fails in done":
                        raise Stop()
                book.done(action, keep=how == "kept by done")
        except Stop:
            self.assertIn(how, ("fails", "fails in done"))
        if how not in ("kept", "kept by done"):
            model.put_back(saved)
            done[:] = listed
        self.check_equal_to_the_model(book, model)

    def test_drawn_sequences(self):
        for seed in range(150):
            chance = random.Random(seed)
            book, model, done = Book(), ModelBook(), []
            for name, scheme in zip("ab", SCHEMES):
                for each in (book, model):
                    each.keep(name, scheme)
                done.append(("keep", (name, scheme)))
            for _ in range(6):
                self.do(chance, book, model, 0, done)
            anew = Book()
            for method, given in done:
                getattr(anew, method)(*given)
            self.assertEqual(all_told(anew), all_told(book))
            self.assertIs(anew == book, True)
            for where in book.schemes():
                for name in book.entries():
                    self.assertEqual(
                        outcome(book.surely, where, [(1, name)]), outcome(anew.surely, where, [(1, name)]),
                    )

    def test_what_is_sure_is_written(self):
        chance = random.Random(5)
        sure = 0
        for _ in range(60):
            book = Book()
            for name, scheme in zip("abcdef", SCHEMES):
                book.keep(name, scheme)
            for name in ("x", "y"):
                outcome(book.put, name, chance.choice(WORDS), chance.randint(0, 40))
            for where in WORDS:
                terms = [(chance.choice((-2, -1, 1, 2)), name) for name in book.entries()[:chance.choice((1, 2))]]
                if terms and outcome(book.surely, where, terms) is True:
                    sure += 1
                    self.assertIsNone(book.reckon("z", where, terms))
        self.assertGreater(sure, 20)

    def test_many_deeds(self):
        book = Book()
        book.keep("p", PLAIN)
        for number in range(2000):
            with book.block():
                book.put("abcdefgh"[number % 8], "p", number)
        self.assertEqual([book.deeds(), book.number_of("a"), book.number_of("h")], [2001, 1992, 1999])
        for _ in range(1992):
            book.undo()
        self.assertEqual([book.deeds(), book.number_of("a"), book.number_of("h")], [9, 0, 7])
