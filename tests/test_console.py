"""Lines and their answers [131], [132], [133]."""

import itertools
import random

from oddfigures.book import Book
from oddfigures.console import Console
from oddfigures.counts import plain_count
from oddfigures.digits import row_text
from oddfigures.places import writing
from oddfigures.schemes import Scheme, plain_scheme
from oddfigures.wholes import alike, closed_under, writes_all
from tests.book_model import all_told, outcome
from tests.checks import Checks
from tests.values import any_values, signed

INVALID = "! InvalidLine"
NAF = "scheme naf base 2; digits -1 0 1; bars -1 -1, -1 1, 1 -1, 1 1"
NO_NAMES = ["A", "aB", "abcdefghi", "a1", "1", "-1", ".", "a,", "a\n", "{", "_", "None"]
NO_NUMBERS = ["+1", "-0", "00", "01", "-01", "--1", "1-", "-", "1.0", "1e3", "x", "0x1", "1_0", "1,", "1" * 101,
    "-" + "9" * 101, "one", "1\n", "\n"]
NO_ROWS = ["x", "1 x", "10", "-0", "+1", "01", "..", ". 1", "1 .", "1,0", "-10", "1\n", "--1", "1 -"]
NO_FACTORS = ["0", "3", "-3", "+1", "01", "-0", "x", "1.", "10", "--1", "1\n", "a"]
# A right line of each kind, for the console of some_console.
RIGHT = [
    "scheme d base 2; digits 0 1", "put d plain 7", "lay d naf 1 0 -1", "move a naf", "drop a", "undo",
    "sum d naf 2 a", "sum d naf 2 a -1 b",
    "show a", "show plain", "value a", "home a", "names", "write plain 5", "count naf 5", "all plain",
    "alike plain naf",
    "closed plain plus", "surely naf 1 a", "surely naf 1 a -2 b",
]


def some_console():
    """A console that keeps three schemes and two entries."""
    console = Console()
    console.said(["scheme plain base 2; digits 0 1", NAF, "scheme three base 3; digits 0 1 2", "lay a plain 0 1 1",
        "put b naf -7"])
    return console


class ConsoleChecks(Checks):
    def check_answers(self, console, pairs):
        for line, answer in pairs:
            self.assertEqual(console.say(line), answer, line)

    def check_unchanged(self, console, lines, answer):
        """Check that these lines get this answer, and that all is as before."""
        before = all_told(console.book())
        for line in lines:
            self.assertEqual(console.say(line), answer, repr(line))
            self.assertEqual(all_told(console.book()), before, repr(line))


class DeedTest(ConsoleChecks):
    def test_each_right_line(self):
        for line in RIGHT:
            answer = some_console().say(line)
            self.assertIs(answer.__class__, str)
            self.assertFalse(answer.startswith("!"), (line, answer))
            self.assertEqual(some_console().say(line=line), answer)

    def test_schemes(self):
        console = Console()
        for text in ["base 2; digits 0 1", "base -6; digits -9 9; bars -9 9", "base 3; digits 0"]:
            self.check_answers(console, [("scheme p " + text, "done"), ("show p", text), ("names", "p"),
                ("undo", "done"), ("names", "-")])
        console = some_console()
        for text in [
            "x", "base 2", "base 2; digits", "base 7; digits 0", "base 2; digits 1 0", "base 2; digits 0 0",
            "base 2, digits 0 1", "base 2; digits 0 10",
            "base 2; digits 0 1; bars 0 2", "base 2; digits 0 1;", "base 2; digits 0 1\n", "Base 2; digits 0", "plain",
            ".", "digits 0 1",
        ]:
            # The text is read first.
            self.check_unchanged(console, ["scheme d " + text, "scheme plain " + text, "scheme a " + text],
                "! InvalidText")
        self.check_unchanged(console, ["scheme a base 2; digits 0", "scheme plain base 2; digits 0"], "! NameTaken")

    def test_put(self):
        console = some_console()
        for number in ("0", "-1", "7", "-7", "9" * 100, "-" + "9" * 100, "10", "-10"):
            self.check_answers(console, [("put d naf " + number, "done"), ("value d", number), ("home d", "naf"),
                ("show d", row_text(writing(signed(), int(number))))])
        self.check_unchanged(console, ["put d plain -1", "put a plain -1", "put d three -" + "9" * 100], "! NotWritten")
        self.check_unchanged(console, ["put plain plain 1", "put naf x 1", "put plain plain -1"], "! NameTaken")
        self.check_unchanged(console, ["put d x 1", "put d a 1", "put d b -1", "put a d 0"], "! UnknownName")

    def test_lay(self):
        console = some_console()
        for row, number in [(".", "0"), ("0", "0"), ("1 0 -1", "3"), ("0 0 1", "1"),
            (" ".join(["1", "0"] * 200), str(2 * (4 ** 200 - 1) // 3))]:
            self.check_answers(console, [("lay d naf " + row, "done"), ("show d", row), ("value d", number)])
        self.check_unchanged(console, ["lay d naf 1 1", "lay d plain -1", "lay d plain 2", "lay a three 3"],
            "! InvalidRow")
        self.check_unchanged(console, ["lay plain plain 2", "lay naf x ."], "! NameTaken")
        self.check_unchanged(console, ["lay d x 1", "lay d a 2"], "! UnknownName")

    def test_move(self):
        console = some_console()
        self.check_answers(console, [("show a", "0 1 1"), ("move a plain", "done"), ("show a", "1 1"),
            ("move a naf", "done"), ("show a", "1 0 -1"), ("move a three", "done"), ("show a", "1 0"),
            ("value a", "3")])
        self.check_unchanged(console, ["move b plain", "move b three"], "! NotWritten")
        self.check_unchanged(console, ["move x plain", "move plain naf", "move a x", "move a b"], "! UnknownName")

    def test_sums(self):
        console = some_console()
        for one, other in itertools.product((-2, -1, 1, 2), repeat=2):
            number = str(one * 3 + other * -7)
            self.check_answers(console, [(f"sum d naf {one} a {other} b", "done"), ("value d", number),
                (f"sum d naf {one} b", "done"), ("value d", str(-7 * one))])
        self.check_answers(console, [("sum a plain 2 a 2 a", "done"), ("value a", "12"), ("show a", "1 1 0 0")])
        self.check_unchanged(console, ["sum d plain 1 b", "sum a plain -1 a", "sum d plain 1 b -1 a"], "! NotWritten")
        self.check_unchanged(console, ["sum plain naf 1 a", "sum plain x 1 x"], "! NameTaken")
        self.check_unchanged(console, ["sum d x 1 a", "sum d naf 1 x", "sum d naf 1 a 1 plain", "sum d a 1 a"],
            "! UnknownName")

    def test_drop_and_undo(self):
        console = some_console()
        self.check_unchanged(console, ["drop plain", "drop naf"], "! InUse")
        self.check_unchanged(console, ["drop x", "drop names", "drop ab"], "! UnknownName")
        self.check_answers(console, [
            ("drop a", "done"), ("names", "b naf plain three"), ("drop plain", "done"), ("names", "b naf three"),
            ("undo", "done"),
            ("undo", "done"), ("names", "a b naf plain three"), ("undo", "done"), ("undo", "done"), ("undo", "done"),
            ("undo", "done"), ("names", "plain"), ("undo", "done"), ("names", "-"), ("undo", "! NothingToUndo"),
            ("names", "-"),
        ])


class QuestionTest(ConsoleChecks):
    def test_what_it_keeps(self):
        console = some_console()
        self.check_answers(console, [
            ("show a", "0 1 1"), ("show b", "-1 0 0 1"), ("show plain", "base 2; digits 0 1"), ("show naf", NAF[11:]),
            ("value a", "3"), ("value b", "-7"), ("home a", "plain"), ("home b", "naf"),
            ("names", "a b naf plain three"),
        ])
        console.say("put e plain 0")
        self.check_answers(console, [("show e", "."), ("value e", "0")])
        self.check_unchanged(console, ["show x", "value x", "value plain", "home naf", "home x", "show undo"],
            "! UnknownName")

    def test_schemes(self):
        console = some_console()
        console.said(["scheme free base 2; digits -1 0 1", "scheme seven base 3; digits -7 0 1",
            "scheme minus base -2; digits 0 1"])
        for name in console.book().schemes():
            scheme = console.book().scheme_of(name)
            for number in (-5, -1, 0, 1, 2, 7, 8, 10 ** 50):
                row, many = writing(scheme, number), plain_count(scheme, number)
                self.check_answers(console, [
                    (f"write {name} {number}", "none" if row is None else row_text(row)),
                    (f"count {name} {number}", "endless" if many is None else str(many)),
                ])
            self.check_answers(console, [(f"all {name}", "yes" if writes_all(scheme) else "no")])
            for word in ("plus", "minus", "negative", "double"):
                self.check_answers(console, [(f"closed {name} {word}", "yes" if closed_under(scheme, word) else "no")])
            for other_name in console.book().schemes():
                other = console.book().scheme_of(other_name)
                answer = "! UnlikeBases" if abs(scheme.base) != abs(other.base) else "yes" if alike(scheme,
                    other) else "no"
                self.check_answers(console, [(f"alike {name} {other_name}", answer)])
        self.check_answers(console, [
            ("write plain 0", "."), ("write plain -1", "none"), ("count free 1", "endless"), ("count naf 0", "1"),
            ("count plain -1", "0"),
            ("all naf", "yes"), ("all plain", "no"), ("alike naf free", "yes"), ("alike naf plain", "no"),
            ("closed naf minus", "yes"),
            ("closed plain minus", "no"), ("write naf -3", "-1 0 1"),
        ])

    def test_unknown_names_and_words(self):
        console = some_console()
        self.check_unchanged(console, [
            "write x 1", "write a 1", "count x 1", "count b 1", "all x", "all a", "alike x naf", "alike naf x",
            "alike x y", "alike a three",
            "alike plain b", "closed x plus", "closed a plus", "closed x nothing", "surely x 1 a", "surely naf 1 x",
            "surely naf 1 a 1 naf",
        ], "! UnknownName")
        self.check_unchanged(console, ["closed naf nothing", "closed naf Plus", "closed plain up", "closed naf 1",
            "closed naf plus\n", "closed naf +"], "! InvalidWord")
        self.check_unchanged(console, ["alike plain three", "alike three naf", "surely three 1 a",
            "surely plain 1 a 1 c"][:3], "! UnlikeBases")

    def test_surely(self):
        console = some_console()
        self.check_answers(console, [
            ("surely naf 1 a 1 b", "yes"), ("surely plain 1 a", "yes"), ("surely plain 1 b", "no"),
            ("surely plain -1 a", "no"),
            ("surely plain 2 a 1 a", "yes"), ("surely plain 2 a -1 a", "no"), ("surely naf -2 b -2 a", "yes"),
        ])

    def test_questions_change_nothing(self):
        console = some_console()
        before = all_told(console.book())
        for line in RIGHT[8:]:
            console.say(line)
            self.assertEqual(all_told(console.book()), before)

    def test_counts_and_numbers_of_any_size(self):
        console = some_console()
        console.say("scheme many base 2; digits 0 1 2")
        answer = console.say("count many " + "7" * 100)
        self.assertEqual(answer, str(plain_count(Scheme(2, [0, 1, 2]), int("7" * 100))))
        # Python itself does not turn such a number into text.
        number = 7 * 10 ** 4400 + 10 ** 64 - 1
        console.book().put("a", "plain", number)
        self.assertEqual(console.say("value a"), "7" + "0" * (4400 - 64) + "9" * 64)
        self.check_answers(console, [("sum b naf -1 a", "done"), ("value b", "-7" + "0" * (4400 - 64) + "9" * 64)])
        for number in (10 ** 64, 10 ** 64 - 1, -10 ** 64, 10 ** 65 + 1, 5 * 10 ** 128 + 10 ** 64, -10 ** 128 - 1):
            console.book().put("b", "naf", number)
            self.check_answers(console, [("value b", str(number))])


class InvalidLineTest(ConsoleChecks):
    def test_no_string(self):
        for wrong in any_values():
            if not isinstance(wrong, str):
                self.check_unchanged(some_console(), [wrong], INVALID)

    def test_any_string(self):
        for wrong in any_values():
            if isinstance(wrong, str):
                self.check_unchanged(some_console(), [wrong], INVALID)

    def test_blanks_too_many_or_too_few(self):
        console = some_console()
        for line in RIGHT:
            words = line.split(" ")
            lines = [" " + line, line + " ", "  ".join(words), line.replace(" ", "\n"), "\n" + line]
            lines += [" ".join(words[:at]) + "  " + " ".join(words[at:]) for at in range(1, len(words))]
            self.check_unchanged(console, [other for other in lines if other != line], INVALID)
        self.check_unchanged(console, ["", " ", "  ", "\n"], INVALID)

    def test_words_too_many_or_too_few(self):
        console = some_console()
        for line in RIGHT:
            words = line.split(" ")
            if words[0] not in ("scheme", "lay"):
                self.check_unchanged(console, [line + " a", line + " 1", line + " 1 a b"], INVALID)
            if words[0] not in ("sum", "surely"):
                self.check_unchanged(console, [line + " 1 a" for _ in range(1) if words[0] not in ("scheme", "lay")],
                    INVALID)
            shortest = {"scheme": 3, "lay": 4}.get(words[0], len(words))
            for at in range(1, shortest):
                if (words[0], at) not in (("sum", 5), ("surely", 4)):
                    self.check_unchanged(console, [" ".join(words[:at])], INVALID)
        self.check_unchanged(console, ["sum d naf 1 a 1 b 1 a", "surely naf 1 a 1 b 1 a", "sum d naf", "surely naf",
            "sum d naf 1 a 1", "sum d naf 1"], INVALID)

    def test_no_such_line(self):
        console = some_console()
        for word in ("keep", "reckon", "sums", "Put", "PUT", "put,", "said", "say", "book", "row", "number", "deeds",
            "block", "done", "writers", "unwritten", "-"):
            self.check_unchanged(console, [word, word + " a", word + " a plain 1", word + " naf"], INVALID)

    def test_names_that_are_none(self):
        console = some_console()
        for wrong in NO_NAMES:
            self.check_unchanged(console, [
                f"scheme {wrong} base 2; digits 0", f"scheme {wrong} x", f"put {wrong} plain 1", f"put d {wrong} 1",
                f"put plain {wrong} 1", f"lay {wrong} plain 1",
                f"lay d {wrong} 1", f"move {wrong} plain", f"move a {wrong}", f"move x {wrong}", f"drop {wrong}",
                f"sum {wrong} naf 1 a", f"sum d {wrong} 1 a",
                f"sum d naf 1 {wrong}", f"sum d naf 1 a 1 {wrong}", f"sum d x 1 {wrong} 1 a", f"show {wrong}",
                f"value {wrong}", f"home {wrong}", f"write {wrong} 1",
                f"count {wrong} 1", f"all {wrong}", f"alike {wrong} naf", f"alike naf {wrong}", f"alike x {wrong}",
                f"closed {wrong} plus",
                f"closed {wrong} nothing", f"surely {wrong} 1 a", f"surely naf 1 {wrong}", f"surely x 1 {wrong}",
                f"surely naf 1 a 1 {wrong}",
            ], INVALID)

    def test_numbers_that_are_none(self):
        console = some_console()
        for wrong in NO_NUMBERS:
            self.check_unchanged(console, [f"put d plain {wrong}", f"put d x {wrong}", f"put plain plain {wrong}",
                f"write plain {wrong}", f"write x {wrong}", f"count naf {wrong}"], INVALID)

    def test_rows_that_are_none(self):
        console = some_console()
        for wrong in NO_ROWS:
            self.check_unchanged(console, [f"lay d plain {wrong}", f"lay d x {wrong}", f"lay plain plain {wrong}"],
                INVALID)

    def test_factors_that_are_none(self):
        console = some_console()
        for wrong in NO_FACTORS:
            self.check_unchanged(console, [
                f"sum d naf {wrong} a", f"sum d naf 1 a {wrong} a", f"sum d naf {wrong} a 1 a", f"sum d x {wrong} x",
                f"surely naf {wrong} a",
                f"surely naf 1 a {wrong} a", f"surely x {wrong} x",
            ], INVALID)


class SaidTest(ConsoleChecks):
    def test_one_behind_the_other(self):
        lines = RIGHT + ["", "x", "undo", NAF, "show d"]
        one, other = some_console(), some_console()
        answers = [one.say(line) for line in lines]
        self.assertEqual(other.said(lines), answers)
        self.assertIs(other.said([]).__class__, list)
        self.assertEqual(some_console().said(lines=tuple(lines)), answers)
        self.assertEqual(all_told(one.book()), all_told(other.book()))

    def test_items_that_are_no_strings(self):
        console = some_console()
        self.assertEqual(console.said(["value a", None, 5, ["value a"], "value b", ("undo",), "names"]),
            ["3", INVALID, INVALID, INVALID, "-7", INVALID, "a b naf plain three"])
        items = any_values()
        self.assertEqual(Console().said(items), [INVALID] * len(items))
        self.assertEqual([Console().said([]), Console().said(())], [[], []])

    def test_what_is_handed_in_is_not_changed(self):
        given = ["names", None]
        answers = Console().said(given)
        self.assertEqual(given, ["names", None])
        answers.clear()
        self.assertEqual(Console().said(given), ["-", INVALID])

    def test_the_book_itself(self):
        console = Console()
        self.assertIs(console.book().__class__, Book)
        self.assertIs(console.book(), console.book())
        self.assertIs(console.book() == Book(), True)
        console.say("scheme p base 2; digits 0 1")
        self.assertEqual(console.book().schemes(), ["p"])
        console.book().put("a", "p", 5)
        self.assertEqual(console.say("value a"), "5")
        self.assertEqual(console.say("undo"), "done")
        self.assertEqual(console.book().entries(), [])
        with self.assertRaises(KeyError):
            with console.book().block():
                console.said(["put b p 1", "undo", "undo"])
                raise KeyError()
        self.assertEqual(console.say("names"), "p")
        self.assertIsNot(Console().book(), console.book())

    def test_drawn_lines(self):
        """Lines of deeds tell the book what its own calls would."""
        words = ["a", "b", "c", "d", "e"]
        for seed in range(60):
            chance = random.Random(seed)
            console, book = Console(), Book()
            for _ in range(40):
                name, where, entry, other = [chance.choice(words) for _ in range(4)]
                scheme = chance.choice([plain_scheme(2), signed(), plain_scheme(3)])
                number, factor, second = chance.randint(-9, 30), chance.choice((-2, -1, 1, 2)), chance.choice((-2, -1,
                    1, 2))
                row = chance.choice([(), (1,), (1, 0), (1, 1, -1)])
                line, call = chance.choice([
                    (f"scheme {name} {scheme}", lambda: book.keep(name, scheme)),
                    (f"put {name} {where} {number}", lambda: book.put(name, where, number)),
                    (f"lay {name} {where} {row_text(row)}", lambda: book.lay(name, where, row)),
                    (f"move {name} {where}", lambda: book.move(name, where)),
                    (f"sum {name} {where} {factor} {entry}", lambda: book.reckon(name, where, [(factor, entry)])),
                    (f"sum {name} {where} {factor} {entry} {second} {other}",
                        lambda: book.reckon(name, where, [(factor, entry), (second, other)])),
                    (f"drop {name}", lambda: book.drop(name)), ("undo", book.undo),
                ])
                expected = outcome(call)
                self.assertEqual(console.say(line), "done" if expected is None else "! " + expected[0].__name__, line)
                self.assertEqual(all_told(console.book()), all_told(book))
                self.assertIs(console.book() == book, True)

    def test_interface(self):
        for name, parameters in {"say": "(self, line)", "said": "(self, lines)", "book": "(self)"}.items():
            self.check_interface("oddfigures.console", vars(Console)[name], parameters)
        self.check_interface("oddfigures.console", Console, "()")
