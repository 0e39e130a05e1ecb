"""Points 30, 31, 36 and 38, and point 4 of them: how a book is made, what it refuses, and books without some rules."""

import itertools
import unittest

from refusals import LikeAll, RefusalCase, odd_things

from mightever.book import Book
from mightever.errors import NoDeed, NoFolk, NoNumber, NoRole, NoState, TooMany
from mightever.office import Office
from mightever.rows import rule_of

ROWS = ["give clerk by boss", "take clerk by boss", "lay clerk", "most 1 boss", "give boss by boss", "last boss"]


def small():
    return Office(["ann", "bob"], ["boss", "clerk"], [("boss", "clerk")])


def rules_of(rows):
    return [rule_of(row) for row in rows]


def book_of(rows):
    return Book(small(), rules_of(rows))


def rows_of(book):
    return [rule.row() for rule in book.rules]


class TestMade(RefusalCase):
    def test_fields(self):
        office, rules = small(), rules_of(ROWS)
        for shape in (list, tuple):
            book = Book(office, shape(rules))
            self.assertIs(book.office, office)
            self.assertIs(type(book.rules), tuple)
            self.assertEqual(book.rules, tuple(rules))
        named = Book(office=office, rules=[])
        self.assertEqual((named.office, named.rules), (office, ()))

    def test_a_list_changed_afterwards_changes_nothing(self):
        rules = rules_of(ROWS)
        book = Book(small(), rules)
        rules.append(rule_of("lay boss"))
        rules[0] = rule_of("last clerk")
        rules.reverse()
        self.assertEqual(rows_of(book), ROWS)
        self.assertEqual(book.rule_for(1, ("give", "ann", "clerk", "bob")), 1)

    def test_what_is_handed_in_is_not_changed(self):
        rules = rules_of(ROWS)
        kept = list(rules)
        Book(small(), rules).without([1, 2])
        self.assertEqual(rules, kept)

    def test_eight_rules_that_let_something_be_done(self):
        for many in range(12):
            for row in ("give clerk by boss", "take clerk by boss", "lay clerk"):
                if many <= 8:
                    self.assertEqual(rows_of(book_of([row] * many)), [row] * many)
                else:
                    self.refused(TooMany, many, book_of, [row] * many)

    def test_four_bars(self):
        for many in range(8):
            for row in ("both boss clerk", "most 2 boss", "last boss"):
                if many <= 4:
                    self.assertEqual(rows_of(book_of([row] * many)), [row] * many)
                else:
                    self.refused(TooMany, many, book_of, [row] * many)

    def test_both_at_once(self):
        letting = ["give clerk by boss", "take clerk by boss", "lay clerk"] * 3
        bars = ["both boss clerk", "most 2 boss", "last boss"] * 2
        self.assertEqual(rows_of(book_of(bars[:4] + letting[:8])), bars[:4] + letting[:8])
        self.refused(TooMany, 9, book_of, bars[:4] + letting)
        self.refused(TooMany, 5, book_of, letting[:8] + bars[:5])
        self.refused(TooMany, 9, book_of, bars + letting)
        self.refused(TooMany, 9, book_of, letting + bars)
        self.refused(TooMany, 6, book_of, letting[:1] + bars)

    def test_how_many_goes_ahead_of_the_names(self):
        self.refused(TooMany, 9, book_of, ["lay none"] * 9)
        self.refused(TooMany, 5, book_of, ["lay none"] + ["last none"] * 5)

    def test_a_role_that_is_not_there(self):
        for row in ["give none by boss", "give boss by none", "give boss by clerk to has none",
                    "give boss by clerk to has boss and not none", "take none by boss", "take boss by none",
                    "take boss by clerk from not none", "take boss by clerk from not boss and has none", "lay none",
                    "lay boss if has none", "lay boss if has boss and has none", "both none boss", "both boss none",
                    "most 1 none", "last none"]:
            self.refused(NoRole, "none", book_of, [row])
            self.refused(NoRole, "none", book_of, ROWS + [row])
        # One of the folk is no role.
        self.refused(NoRole, "ann", book_of, ["lay ann"])

    def test_the_first_of_several(self):
        self.refused(NoRole, "x", book_of, ["lay boss", "lay x", "lay y"])
        self.refused(NoRole, "y", book_of, ["last y", "lay x"])
        self.refused(NoRole, "z", book_of, ["give z by y to has x and has w"])
        self.refused(NoRole, "y", book_of, ["give boss by y to has x and has w"])
        self.refused(NoRole, "x", book_of, ["take boss by boss from not x and has w"])
        self.refused(NoRole, "w", book_of, ["lay boss if has boss and not w", "lay x"])
        self.refused(NoRole, "q", book_of, ["both q p"])


class TestWithout(RefusalCase):
    def test_by_numbers_in_any_order(self):
        for many in range(len(ROWS) + 1):
            for numbers in itertools.combinations(range(1, len(ROWS) + 1), many):
                left = [row for number, row in enumerate(ROWS, start=1) if number not in numbers]
                for some in (list(numbers), list(numbers)[::-1], list(numbers) * 2, sorted(numbers, key=lambda n: n % 3)):
                    kept = list(some)
                    other = book_of(ROWS).without(some)
                    self.assertEqual(rows_of(other), left)
                    self.assertIs(type(other), Book)
                    self.assertEqual(some, kept)

    def test_the_office_is_the_same_and_the_book_stays(self):
        book = book_of(ROWS)
        other = book.without([1, 4])
        self.assertIs(other.office, book.office)
        self.assertIs(type(other.rules), tuple)
        self.assertEqual(other.rules, (book.rules[1], book.rules[2], book.rules[4], book.rules[5]))
        self.assertEqual(rows_of(book), ROWS)

    def test_what_is_left_is_numbered_anew(self):
        book = book_of(ROWS)
        deed = ("give", "ann", "boss", "bob")
        self.assertEqual(book.rule_for(1, deed), 5)
        self.assertEqual(book.without([1, 3, 6]).rule_for(1, deed), 3)
        self.assertEqual(book.without([5]).rule_for(1, deed), 0)
        self.assertEqual(book.without([2]).missing(0, deed), [(4, "ann", "has boss")])
        self.assertEqual(book.missing(1, deed), [(4, "bob", "most 1 boss")])
        self.assertEqual(book.without([4]).missing(1, deed), [])
        self.assertEqual(book.without([2]).without([2]).missing(1, deed), [(2, "bob", "most 1 boss")])

    def test_no_number(self):
        book = book_of(ROWS)
        # Made anew, lest a list be the same thing as one that is handed in.
        things = [0, -1, -6, 7, 8, 10 ** 30, True, False, None, "", "1", "ann", 1.0, 2.5, [], [1], (1,), {}, {1}, object(),
                  LikeAll()]
        for thing in things:
            self.refused_with_it(NoNumber, thing, book.without, [thing])
            self.refused_with_it(NoNumber, thing, book.without, [1, 6, thing])
            self.refused_with_it(NoNumber, thing, book.without, [thing, 1])
            self.refused_with_it(NoNumber, thing, book.without, [2, thing, 0, "x", None])
        self.refused(NoNumber, 1, book_of([]).without, [1])
        self.refused(NoNumber, 0, book_of([]).without, [0])
        self.assertEqual(book_of([]).without([]).rules, ())
        self.assertEqual(rows_of(book), ROWS)


BAD_FORMS = [("give", "ann", "boss"), ("give", "ann", "boss", "bob", "bob"), (), ("give",), ("lay", "ann", "boss"),
             ["give", "ann", "boss", "bob"], ["lay", "ann", "boss", "ann"], "give ann boss bob", "give",
             ("give", "ann", "boss", None), ("give", "ann", 1, "bob"), ("give", ["ann"], "boss", "bob"),
             (None, "ann", "boss", "bob"), (0, "ann", "boss", "bob"), (b"give", "ann", "boss", "bob"),
             (("give",), "ann", "boss", "bob"), (LikeAll(), "ann", "boss", "bob"), ("give", LikeAll(), "boss", "bob"),
             ("lay", "ann", "boss", LikeAll()), ("lay", "ann", LikeAll(), "ann"), ("Give", "ann", "boss", "bob"),
             ("gives", "ann", "boss", "bob"), ("", "ann", "boss", "bob"), ("give ", "ann", "boss", "bob"),
             ("last", "ann", "boss", "bob"), ("has", "ann", "boss", "bob"), ("lay", "ann", "boss", "bob"),
             ("lay", "bob", "boss", "ann"), ("lay", "zed", "boss", "ann"), ("lay", "ann", "none", "zed"),
             ("give", "zed", "none", None), ("gave", "zed", "none", "zed"), {0: "give", 1: "ann", 2: "boss", 3: "bob"}]


class TestAskedRefusals(RefusalCase):
    def with_state(self):
        book = book_of(ROWS)
        return [book.missing, book.lets, book.rule_for, book.done]

    def with_deed(self, state):
        """Each question for which a deed is handed in, asked of this state where one is asked for."""
        asks = [lambda deed, ask=ask: ask(state, deed) for ask in self.with_state()]
        return asks + [book_of(ROWS).ways]

    def test_no_state_goes_first(self):
        deeds = [("give", "ann", "boss", "bob"), ("give", "zed", "none", "zed"), ("gave",), None, ["give"]]
        for thing in odd_things() + [16, 17, 0.0, "0", "1", [0], (0,)]:
            for ask, deed in itertools.product(self.with_state(), deeds):
                self.refused_with_it(NoState, thing, ask, thing, deed)

    def test_no_deed(self):
        for state in (0, 15):
            for thing in BAD_FORMS + odd_things():
                for ask in self.with_deed(state):
                    self.refused_with_it(NoDeed, thing, ask, thing)

    def test_folk_and_roles_that_are_not_there(self):
        names = ["zed", "", "Ann", "boss", "ann ", "nobodys"]
        roles = ["none", "", "Boss", "ann", "boss "]
        for state in (0, 15):
            for ask in self.with_deed(state):
                for verb, name, role in itertools.product(("give", "take"), names, roles):
                    for other in ["ann", name, "yan"]:
                        for anything in ("boss", role):
                            self.refused(NoFolk, name, ask, (verb, name, anything, other))
                        self.refused(NoRole, role, ask, (verb, "ann", role, other))
                    self.refused(NoFolk, name, ask, (verb, "bob", "clerk", name))
                for name, role in itertools.product(names, roles):
                    self.refused(NoFolk, name, ask, ("lay", name, role, name))
                    self.refused(NoRole, role, ask, ("lay", "bob", role, "bob"))

    def test_the_same_texts_are_handed_back(self):
        name = "".join(["z", "ed"])
        for ask in self.with_deed(3):
            self.refused_with_it(NoFolk, name, ask, ("give", name, "none", "yan"))
            self.refused_with_it(NoFolk, name, ask, ("take", "ann", "boss", name))
            self.refused_with_it(NoRole, name, ask, ("take", "ann", name, "yan"))

    def test_deeds_of_all_kinds_are_let_in(self):
        for verb, who, role, whom in itertools.product(("give", "take", "lay"), ("ann", "bob"), ("boss", "clerk"), ("ann", "bob")):
            if verb != "lay" or who == whom:
                for state in range(16):
                    self.assertIs(type(book_of(ROWS).missing(state, (verb, who, role, whom))), list)


if __name__ == "__main__":
    unittest.main()
