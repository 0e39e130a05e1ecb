"""Point 39, and point 4 of it: books read from a text and written as one."""

import random
import unittest

from refusals import RefusalCase, drawn_book, odd_things

from mightever.book import Book
from mightever.booktext import book_of, text_of
from mightever.errors import Doubled, NoBook, NoRole, Ring, TooMany
from mightever.office import Office
from mightever.rows import rule_of

ROWS = ["folk ann bob", "roles boss clerk aide", "above boss clerk", "above clerk aide", "give clerk by boss",
        "take clerk by boss from not boss and has clerk", "lay aide if has clerk", "both boss aide", "most 2 clerk",
        "last boss"]
# Names that are called like the words of rows, folk and roles alike.
WORDY = ["folk folk roles above", "roles above by to folk", "above above by", "above by to",
         "give by by by to has to and not by", "take above by folk from has by", "lay to if not to", "both by to", "most 1 to",
         "last above"]


def text(rows):
    return "\n".join(rows)


def changed(rows, place, row):
    return rows[:place] + [row] + rows[place + 1:]


def told(book):
    return (book.office.folk, book.office.roles, book.office.pairs, [rule.row() for rule in book.rules])


class TestRead(unittest.TestCase):
    def test_of_what_the_text_tells(self):
        book = book_of(text(ROWS))
        self.assertIs(type(book), Book)
        self.assertIs(type(book.office), Office)
        self.assertEqual(told(book), (("ann", "bob"), ("boss", "clerk", "aide"), (("boss", "clerk"), ("clerk", "aide")),
                                      ROWS[4:]))
        self.assertEqual(book.lets(1, ("give", "ann", "clerk", "bob")), True)
        self.assertEqual(book.missing(0, ("give", "ann", "clerk", "bob")), [(1, "ann", "has boss")])
        self.assertEqual(book.missing(1, ("give", "ann", "aide", "bob")), [(0, "ann", "no rule")])

    def test_the_pairs_stand_in_the_order_of_the_rows(self):
        rows = ["folk ann", "roles a b c", "above b c", "above a c", "above a b"]
        self.assertEqual(book_of(text(rows)).office.pairs, (("b", "c"), ("a", "c"), ("a", "b")))

    def test_without_pairs_and_without_rules(self):
        self.assertEqual(told(book_of("folk ann\nroles boss")), (("ann",), ("boss",), (), []))
        self.assertEqual(told(book_of(text(ROWS[:4])))[2:], ((("boss", "clerk"), ("clerk", "aide")), []))
        self.assertEqual(told(book_of(text(ROWS[:2] + ROWS[4:])))[2:], ((), ROWS[4:]))
        for many in range(2, len(ROWS) + 1):
            self.assertEqual(text_of(book_of(text(ROWS[:many]))), text(ROWS[:many]))

    def test_names_that_are_called_like_the_words_of_rows(self):
        book = book_of(text(WORDY))
        self.assertEqual(told(book), (("folk", "roles", "above"), ("above", "by", "to", "folk"),
                                      (("above", "by"), ("by", "to")), WORDY[4:]))
        self.assertEqual(text_of(book), text(WORDY))
        self.assertEqual(told(book_of("folk folk\nroles roles")), (("folk",), ("roles",), (), []))

    def test_as_many_as_there_may_be(self):
        rows = ["folk a b c d", "roles abcdef b c"] + ["lay b"] * 8 + ["last c"] * 4
        self.assertEqual(text_of(book_of(text(rows))), text(rows))
        rows = ["folk zzzzzz", "roles a b c d e f"]
        pairs = [f"above {upper} {lower}" for upper in "abcdef" for lower in "abcdef" if upper < lower]
        self.assertEqual(len(book_of(text(rows + pairs)).office.pairs), 15)

    def test_bars_and_rules_in_any_order(self):
        rows = ROWS[:4] + ROWS[9:3:-1]
        self.assertEqual(text_of(book_of(text(rows))), text(rows))


class TestWritten(unittest.TestCase):
    def test_of_a_book_made_by_hand(self):
        office = Office(("ann", "bob"), ("boss", "clerk"), [("boss", "clerk")])
        book = Book(office, (rule_of("lay clerk"), rule_of("most 3 boss")))
        self.assertEqual(text_of(book), "folk ann bob\nroles boss clerk\nabove boss clerk\nlay clerk\nmost 3 boss")
        self.assertEqual(text_of(Book(Office(["ann"], ["x"], []), [])), "folk ann\nroles x")

    def test_what_is_written_is_read_again(self):
        draw = random.Random(39)
        for _ in range(200):
            book = drawn_book(draw, *draw.choice([(1, 1), (1, 6), (2, 3), (4, 3), (3, 2), (2, 6)]))
            written = text_of(book)
            again = book_of(written)
            self.assertEqual(told(again), told(book))
            self.assertEqual(text_of(again), written)

    def test_without_some_rules(self):
        book = book_of(text(ROWS))
        self.assertEqual(text_of(book.without([1, 6])), text(ROWS[:4] + ROWS[5:9]))
        self.assertEqual(text_of(book), text(ROWS))


class TestNoBook(RefusalCase):
    def test_things_that_are_no_text(self):
        for thing in odd_things() + [ROWS, 0, b"folk ann\nroles boss"]:
            if not isinstance(thing, str):
                self.refused(NoBook, 0, book_of, thing)

    def test_a_row_without_its_form(self):
        for place, row in enumerate(ROWS):
            words = row.split(" ")
            broken = [" " + row, row + " ", row.replace(" ", "  ", 1), row.replace(" ", "  "), "", " ", words[0],
                      row.replace(" ", "\t", 1), row + "\r", row + "\t", "x" + row, row.upper(), row.replace(" ", ", ", 1),
                      "and " + row, " ".join(["folks"] + words[1:]), row + " toolong", row + " x1", row + " -",
                      row + " Boss", " ".join(words[:-1] + [words[-1] + "\u00e9"]), row + " \u00e9"]
            if place >= 2:
                # A word more; folk and roles may have any number of names.
                broken += [row + " boss", row + " and", " ".join(words[:-1])]
            for other in broken:
                self.refused(NoBook, place, book_of, text(changed(ROWS, place, other)))

    def test_names_without_their_form(self):
        for place in (0, 1):
            for name in ["", "Ann", "ann1", "abcdefg", "a.", "\u00e9", "ann,", "%"]:
                word = ROWS[place].split(" ")[0]
                for names in ([name], [name, "bob"], ["bob", name], ["bob", name, "cid"]):
                    self.refused(NoBook, place, book_of, text(changed(ROWS, place, " ".join([word] + names))))

    def test_the_first_of_several(self):
        for first in range(len(ROWS)):
            for second in range(first + 1, len(ROWS)):
                self.refused(NoBook, first, book_of, text(changed(changed(ROWS, first, "no"), second, "no")))
        self.refused(NoBook, 0, book_of, "no")
        self.refused(NoBook, 0, book_of, "folk")
        self.refused(NoBook, 0, book_of, "roles boss")

    def test_folk_and_roles_turned_about_twice_or_missing(self):
        self.refused(NoBook, 0, book_of, text([ROWS[1], ROWS[0]] + ROWS[2:]))
        self.refused(NoBook, 1, book_of, text([ROWS[0]] + ROWS))
        self.refused(NoBook, 2, book_of, text(ROWS[:2] + ROWS[1:]))
        self.refused(NoBook, 2, book_of, text(ROWS[:2] + ROWS))
        self.refused(NoBook, 0, book_of, text(ROWS[1:]))
        self.refused(NoBook, 1, book_of, text(ROWS[:1] + ROWS[2:]))
        self.refused(NoBook, 0, book_of, text(ROWS[2:]))
        self.refused(NoBook, 4, book_of, text(ROWS[:4] + ROWS[:1] + ROWS[4:]))

    def test_a_text_that_ends_too_soon(self):
        self.refused(NoBook, 1, book_of, "folk ann")
        self.refused(NoBook, 1, book_of, "folk ann bob cid dan eve")
        self.refused(NoBook, 0, book_of, "")
        self.refused(NoBook, 1, book_of, "folk ann\n")
        self.refused(NoBook, 0, book_of, "\n")

    def test_a_pair_behind_a_rule(self):
        self.refused(NoBook, 4, book_of, text(ROWS[:3] + [ROWS[4], ROWS[3]] + ROWS[5:]))
        self.refused(NoBook, 10, book_of, text(ROWS + ["above boss aide"]))
        self.refused(NoBook, 3, book_of, text(ROWS[:2] + ["last boss", "above boss clerk"]))
        # A row of another form, between two pairs, is the first without its form.
        self.refused(NoBook, 3, book_of, text(ROWS[:3] + ["above boss"] + ROWS[3:]))

    def test_a_pair_has_just_two_names(self):
        for row in ["above", "above boss", "above boss clerk aide", "above boss Clerk", "above  clerk", "above boss clerk "]:
            self.refused(NoBook, 2, book_of, text(changed(ROWS, 2, row)))
            self.refused(NoBook, 3, book_of, text(changed(ROWS, 3, row)))

    def test_a_line_feed_at_the_end_or_a_row_without_words(self):
        self.refused(NoBook, len(ROWS), book_of, text(ROWS) + "\n")
        self.refused(NoBook, 2, book_of, "folk ann\nroles boss\n")
        for place in range(len(ROWS)):
            self.refused(NoBook, place, book_of, text(ROWS[:place] + [""] + ROWS[place:]))

    def test_both_of_one_role_is_no_row(self):
        self.refused(NoBook, 7, book_of, text(changed(ROWS, 7, "both boss boss")))
        self.refused(NoBook, 8, book_of, text(changed(ROWS, 8, "most 0 clerk")))
        self.refused(NoBook, 8, book_of, text(changed(ROWS, 8, "most 5 clerk")))


class TestRefusedAsTheOfficeThenAsTheBook(RefusalCase):
    def test_as_the_office(self):
        self.refused(TooMany, 5, book_of, "folk a b c d e\nroles boss")
        self.refused(TooMany, 7, book_of, "folk a\nroles a b c d e f g")
        self.refused(TooMany, 16, book_of, "folk a b c d\nroles a b c d")
        self.refused(Doubled, "ann", book_of, "folk bob ann ann\nroles boss")
        self.refused(Doubled, "boss", book_of, "folk ann\nroles boss clerk boss")
        self.refused(NoRole, "chief", book_of, text(ROWS[:2] + ["above chief none"]))
        self.refused(NoRole, "none", book_of, text(ROWS[:2] + ["above boss none"]))
        self.refused(Doubled, "boss", book_of, text(ROWS[:3] + ROWS[2:]))
        self.refused(Ring, "aide", book_of, text(ROWS[:4] + ["above aide boss"]))
        self.refused(Ring, "boss", book_of, text(ROWS[:2] + ["above boss boss"]))
        self.refused(TooMany, 16, book_of, text(ROWS[:2] + ["above boss clerk"] * 16))

    def test_as_the_book(self):
        self.refused(TooMany, 9, book_of, text(ROWS[:2] + ["lay boss"] * 9))
        self.refused(TooMany, 5, book_of, text(ROWS[:2] + ["last boss"] * 5))
        self.refused(NoRole, "none", book_of, text(ROWS + ["lay none"]))
        self.refused(NoRole, "ann", book_of, text(ROWS + ["last ann"]))

    def test_the_form_goes_first_then_the_office_then_the_book(self):
        self.refused(NoBook, 3, book_of, "folk a a a a a\nroles b b\nabove x x\nno\nlay none")
        self.refused(NoBook, 1, book_of, "folk a a a a a\nroles")
        self.refused(NoBook, 12, book_of, text(["folk ann ann", "roles boss", "above x y"] + ["lay none"] * 9 + [""]))
        self.refused(Doubled, "a", book_of, "folk a a\nroles b b\nabove x x\nlay none")
        self.refused(Ring, "b", book_of, text(["folk a", "roles b", "above b b"] + ["lay none"] * 9))
        self.refused(TooMany, 9, book_of, text(["folk a", "roles b"] + ["lay none"] * 9))


if __name__ == "__main__":
    unittest.main()
