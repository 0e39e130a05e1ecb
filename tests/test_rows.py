"""Points 27 and 28: rules and wishes read from rows, told again, or refused; and where a wish holds."""

import itertools
import re
import unittest

from refusals import (LikeAll, RefusalCase, all_states, is_of_ways, joined_ways, odd_things, rights_held, term_holds,
                      term_ways)

from mightever.conditions import Has, Not
from mightever.errors import NoFolk, NoRole, NoRule, NoState, NoWish, OfficeError
from mightever.office import Office
from mightever.rows import Wish, rule_of, wish_of
from mightever.rules import Both, Give, Last, Lay, Most, Take

NAME = "[a-z]{1,6}"
TERM = f"(?:has|not) {NAME}"
RULE = re.compile(
    f"give {NAME} by {NAME}(?: to {TERM}(?: and {TERM})?)?"
    f"|take {NAME} by {NAME}(?: from {TERM}(?: and {TERM})?)?"
    f"|lay {NAME}(?: if {TERM}(?: and {TERM})?)?"
    f"|both ({NAME}) (?!\\1$){NAME}|most [1-4] {NAME}|last {NAME}")
WISH = re.compile(f"{NAME} {TERM}(?: and {NAME} {TERM}){{0,2}}")

FORMS = [
    "give boss by chief", "give boss by chief to has clerk", "give boss by chief to not aide and has clerk",
    "take boss by chief", "take boss by chief from not clerk", "take boss by chief from has aide and not clerk",
    "lay boss", "lay boss if has clerk", "lay boss if not aide and not clerk",
    "both boss clerk", "most 3 boss", "last boss"]
WISHES = ["ann has boss", "ann has boss and bob not clerk", "ann not boss and ann not clerk and cid has aide"]
WORDS = ["give", "take", "lay", "by", "to", "from", "if", "and", "has", "not", "both", "most", "last", "boss", "folk",
         "1", "4", "5", "0", "", "Boss", "toolong", "b1", "\t", "a\n", "\u00e9"]


def spoilt(row):
    """The row with a word left out, doubled, put in, exchanged or spoilt, and with blanks put in."""
    words = row.split(" ")
    found = [row + " ", " " + row, row + "\n", "\n" + row, row.upper(), row.replace(" ", "\t"), row.replace(" ", "_")]
    for place in range(len(words) + 1):
        found.append(" ".join(words[:place]))
        for word in WORDS:
            found.append(" ".join(words[:place] + [word] + words[place:]))
    for place, word in enumerate(words):
        ahead, behind = words[:place], words[place + 1:]
        found.append(" ".join(ahead + behind))
        found.append(" ".join(ahead) + "  " + " ".join(words[place:]))
        others = WORDS + [word * 2, word + "xxxxxxx", word[:1].upper() + word[1:], word + "7", "7" + word, word + ".",
                          word[:1] + " " + word[1:], word[:1], word[:-1], word + "s", (word * 7)[:6], (word * 7)[:7]]
        for other in others:
            found.append(" ".join(ahead + [other] + behind))
        for other in range(place):
            swapped = list(words)
            swapped[place], swapped[other] = words[other], word
            found.append(" ".join(swapped))
    return found


def is_rule(text):
    return RULE.fullmatch(text) is not None


class TestRulesRead(RefusalCase):
    def test_each_form_is_read_and_told_again(self):
        for row in FORMS:
            self.assertEqual(rule_of(row).row(), row)

    def test_what_is_read(self):
        kinds = [Give] * 3 + [Take] * 3 + [Lay] * 3 + [Both, Most, Last]
        for row, kind in zip(FORMS, kinds):
            self.assertIs(type(rule_of(row)), kind)
        for row in FORMS[:6]:
            self.assertEqual((rule_of(row).role, rule_of(row).by), ("boss", "chief"))
        for row in FORMS[6:9]:
            self.assertEqual(rule_of(row).role, "boss")
        terms = [[], ["has clerk"], ["not aide", "has clerk"], [], ["not clerk"], ["has aide", "not clerk"],
                 [], ["has clerk"], ["not aide", "not clerk"]]
        for row, told in zip(FORMS[:9], terms):
            rule = rule_of(row)
            self.assertIs(type(rule.terms), tuple)
            self.assertEqual([term.row() for term in rule.terms], told)
            self.assertEqual([type(term) for term in rule.terms], [Has if "has" in row else Not for row in told])
        self.assertEqual((rule_of("both boss clerk").one, rule_of("both boss clerk").other), ("boss", "clerk"))
        for many in range(1, 5):
            rule = rule_of(f"most {many} boss")
            self.assertEqual((rule.most, rule.role), (many, "boss"))
            self.assertIs(type(rule.most), int)
        self.assertEqual(rule_of("last boss").role, "boss")

    def test_names_called_like_the_words_of_a_row(self):
        rule = rule_of("give by by to to has has")
        self.assertEqual((rule.role, rule.by, [term.row() for term in rule.terms]), ("by", "to", ["has has"]))
        self.assertEqual(rule.row(), "give by by to to has has")

    def test_a_word_is_what_its_place_makes_it(self):
        rule = rule_of("give by by by to has has and not and")
        self.assertEqual((rule.role, rule.by, [term.row() for term in rule.terms]), ("by", "by", ["has has", "not and"]))
        words = ["give", "take", "lay", "by", "to", "from", "if", "and", "has", "not", "both", "most", "last"]
        for one, other in itertools.product(words, words):
            rows = [f"give {one} by {other}", f"give {one} by {other} to has {one}",
                    f"give {other} by {one} to not {one} and has {other}", f"take {one} by {other}",
                    f"take {one} by {other} from not {other}", f"take {one} by {one} from has {other} and has {one}",
                    f"lay {one}", f"lay {one} if has {other}", f"lay {one} if not {other} and has {one}",
                    f"most 2 {one}", f"last {one}"]
            for row in rows:
                self.assertEqual(rule_of(row).row(), row)
            if one != other:
                self.assertEqual(rule_of(f"both {one} {other}").row(), f"both {one} {other}")

    def test_names_of_one_and_six_signs(self):
        for name in ["a", "z", "abcdef", "zzzzzz"]:
            for row in [f"give {name} by {name}", f"lay {name} if not {name}", f"both {name} x", f"last {name}"]:
                self.assertEqual(rule_of(row).row(), row)

    def test_roles_that_no_office_has_are_read(self):
        self.assertEqual(rule_of("give q by w to has x and not y").names(), ["q", "w", "x", "y"])


class TestRulesRefused(RefusalCase):
    def test_spoilt_rows(self):
        good = 0
        for row in FORMS + ["give by by by to has has and not and", "lay if if not if", "most 1 most", "both b a"]:
            for text in spoilt(row):
                if is_rule(text):
                    good = good + 1
                    self.assertEqual(rule_of(text).row(), text)
                else:
                    self.refused_with_it(NoRule, text, rule_of, text)
        self.assertGreater(good, 100)

    def test_some_written_out(self):
        for text in ["", " ", "give", "give boss", "give boss by", "give boss chief", "give boss by chief has clerk",
                     "give boss by chief to", "give boss by chief to has", "give boss by chief to clerk",
                     "give boss by chief from has clerk", "take boss by chief to has clerk", "lay boss by chief",
                     "lay boss to has clerk", "give boss by chief if has clerk", "give boss by chief and has clerk",
                     "give boss by chief to has a and", "give boss by chief to has a and has",
                     "give boss by chief to has a and has b and has c", "give boss by chief to has a to has b",
                     "give boss by chief to has a has b", "lay boss if has a and has b and not c", "lay", "lay boss if",
                     "both", "both boss", "both boss boss", "both a b c", "most boss", "most 0 boss", "most 5 boss",
                     "most 10 boss", "most 12 boss", "most 01 boss", "most -1 boss", "most +1 boss", "most one boss",
                     "most 1", "most 1 2", "most 3 a b", "most \u0663 boss", "most \u00b2 boss", "last", "last a b", "last 1",
                     "give by by to has has", "above a b", "folk ann", "Give boss by chief", "give Boss by chief",
                     "give boss by toolong", "give toolong by boss", "give b1 by boss", "give boss by chief ",
                     " give boss by chief", "give  boss by chief", "give boss  by chief", "give boss by chief\n",
                     "give boss by chief to has  clerk", "give boss\tby chief", "give boss by chief to Has clerk"]:
            self.refused_with_it(NoRule, text, rule_of, text)

    def test_things_that_are_no_text(self):
        things = [thing for thing in odd_things() if not isinstance(thing, str)]
        things = things + [["last", "boss"], ("last", "boss"), b"last boss", Last("boss"), 3, LikeAll(), rule_of]
        for thing in things:
            self.refused_with_it(NoRule, thing, rule_of, thing)


OFFICE = (["bob", "ann"], ["clerk", "boss", "chief"], [("boss", "clerk"), ("chief", "boss")])


def small():
    return Office(*OFFICE)


def parts_of(row):
    """The parts of a wish's row, as tuples of who and the condition's row."""
    words = ("and " + row).split(" ")
    return [(words[place + 1], " ".join(words[place + 2:place + 4])) for place in range(0, len(words), 4)]


def term_of(row):
    return Has(row[4:]) if row.startswith("has ") else Not(row[4:])


def wish_rows(many):
    """All wishes of so many parts over the small office's folk and roles."""
    parts = [f"{who} {word} {role}" for who in OFFICE[0] for word in ("has", "not") for role in OFFICE[1]]
    return [" and ".join(some) for some in itertools.product(parts, repeat=many)]


class TestWishesRead(RefusalCase):
    def test_each_is_read_and_told_again(self):
        for row in WISHES:
            wish = wish_of(row)
            self.assertIs(type(wish), Wish)
            self.assertEqual(wish.row(), row)
            self.assertIs(type(wish.parts), tuple)
            self.assertEqual([(who, term.row()) for who, term in wish.parts], parts_of(row))
            for who, term in wish.parts:
                self.assertIs(type(term), Has if term.row().startswith("has") else Not)

    def test_names_called_like_the_words_of_a_row(self):
        words = ["and", "has", "not", "by", "give"]
        for one, other in itertools.product(words, words):
            for row in [f"{one} has {other}", f"{one} not {other} and {other} has {one}",
                        f"{one} has {one} and and not {other} and {other} not and"]:
                self.assertEqual(wish_of(row).row(), row)
                self.assertEqual([(who, term.row()) for who, term in wish_of(row).parts], parts_of(row))

    def test_made_by_hand(self):
        for row in WISHES:
            parts = [(who, term_of(term)) for who, term in parts_of(row)]
            for shape in (list, tuple):
                wish = Wish(shape(parts))
                self.assertEqual(wish.parts, tuple(parts))
                self.assertIs(type(wish.parts), tuple)
                self.assertEqual(wish.row(), row)
        self.assertEqual(Wish(parts=[("ann", Has("boss"))]).row(), "ann has boss")

    def test_parts_changed_afterwards_change_nothing(self):
        parts = [("ann", Has("boss"))]
        wish = Wish(parts)
        parts.append(("bob", Has("boss")))
        parts[0] = ("bob", Not("boss"))
        self.assertEqual(wish.row(), "ann has boss")
        self.assertEqual(len(wish.parts), 1)
        self.assertEqual(wish.ways(small()), [(16, 0), (32, 0)])


class TestWishesRefused(RefusalCase):
    def test_spoilt_rows(self):
        good = 0
        for row in WISHES + ["and has and and not not has", "has has has"]:
            for text in spoilt(row):
                if WISH.fullmatch(text) is not None:
                    good = good + 1
                    self.assertEqual(wish_of(text).row(), text)
                else:
                    self.refused_with_it(NoWish, text, wish_of, text)
        self.assertGreater(good, 100)

    def test_none_and_four_parts(self):
        part = "ann has boss"
        for many in range(7):
            text = " and ".join([part] * many)
            if 1 <= many <= 3:
                self.assertEqual(wish_of(text).row(), text)
            else:
                self.refused_with_it(NoWish, text, wish_of, text)

    def test_some_written_out(self):
        for text in ["", " ", "and", "ann", "ann has", "has boss", "ann boss", "ann is boss", "ann has boss and",
                     "and ann has boss", "ann has boss and bob", "ann has boss and bob has", "ann has boss bob has boss",
                     "ann has boss and has clerk", "ann has boss or bob has clerk", "ann has boss  and bob has clerk",
                     "ann has boss ", " ann has boss", "ann  has boss", "ann has boss\n", "ann has boss\nand bob has boss",
                     "Ann has boss", "ann has Boss", "ann Has boss", "toolong has boss", "ann has toolong", "a1 has boss",
                     "ann has 1", "ann has boss, bob has clerk", "ann has boss and and bob has clerk"]:
            self.refused_with_it(NoWish, text, wish_of, text)

    def test_things_that_are_no_text(self):
        things = [thing for thing in odd_things() if not isinstance(thing, str)]
        things = things + [["ann", "has", "boss"], ("ann", Has("boss")), [("ann", Has("boss"))], b"ann has boss",
                           wish_of("ann has boss"), 3, LikeAll(), wish_of]
        for thing in things:
            self.refused_with_it(NoWish, thing, wish_of, thing)


class TestWishesAsked(RefusalCase):
    def test_where_it_holds_and_its_ways(self):
        office = small()
        held = [rights_held(office, state) for state in all_states(office)]
        some = wish_rows(3)[::17]
        for row in wish_rows(1) + wish_rows(2) + some:
            wish, parts = wish_of(row), parts_of(row)
            ways = wish.ways(office)
            self.assertIs(type(ways), list)
            self.assertEqual(sorted(ways), sorted(joined_ways([term_ways(office, who, term) for who, term in parts])))
            for state, rights in enumerate(held):
                holds = all(term_holds(office, rights, who, term) for who, term in parts)
                self.assertIs(wish.holds(office, state), holds)
                self.assertIs(is_of_ways(state, ways), holds)

    def test_the_ways_in_their_order(self):
        office = small()
        self.assertEqual(wish_of("bob has boss").ways(office), [(2, 0), (4, 0)])
        self.assertEqual(wish_of("bob has boss and ann not boss").ways(office), [(2, 48), (4, 48)])
        self.assertEqual(wish_of("bob has boss and ann has boss").ways(office), [(18, 0), (34, 0), (20, 0), (36, 0)])
        self.assertEqual(wish_of("ann has boss and bob has boss").ways(office), [(18, 0), (20, 0), (34, 0), (36, 0)])
        self.assertEqual(wish_of("bob has boss and bob not chief").ways(office), [(2, 4)])
        self.assertEqual(wish_of("bob has clerk and bob has boss").ways(office), [(3, 0), (5, 0), (2, 0), (6, 0), (4, 0)])

    def test_there_may_be_none(self):
        office = small()
        for row in ["bob has boss and bob not clerk", "ann has chief and bob has chief and ann not boss"]:
            self.assertEqual(wish_of(row).ways(office), [])
            self.assertFalse(any(wish_of(row).holds(office, state) for state in all_states(office)))

    def test_no_state_goes_first(self):
        for thing in odd_things() + [64, 0.0, "0"]:
            for row in ["ann has boss", "zed has boss", "ann has boss and zed has none", "ann has none and zed has boss"]:
                self.refused_with_it(NoState, thing, wish_of(row).holds, small(), thing)

    def test_the_first_part_for_which_something_is_due(self):
        cases = [("zed has boss", NoFolk, "zed"), ("ann has none", NoRole, "none"), ("zed not none", NoFolk, "zed"),
                 ("ann has boss and zed has boss", NoFolk, "zed"), ("ann not boss and ann has none", NoRole, "none"),
                 ("ann has none and zed has boss", NoRole, "none"), ("zed has boss and ann has none", NoFolk, "zed"),
                 ("ann has boss and ann not boss and zed not none", NoFolk, "zed"),
                 ("ann has boss and bob has none and zed has some", NoRole, "none"),
                 ("ann has some and bob has none and zed has boss", NoRole, "some")]
        for row, kind, value in cases:
            self.refused(kind, value, wish_of(row).ways, small())
            # Also where a part ahead of it doesn't hold.
            for state in all_states(small()):
                self.refused(kind, value, wish_of(row).holds, small(), state)

    def test_folk_that_are_no_text(self):
        for thing in odd_things():
            wish = Wish([("ann", Has("boss")), (thing, Has("boss"))])
            self.refused_with_it(NoFolk, thing, wish.holds, small(), 0)
            self.refused_with_it(NoFolk, thing, wish.ways, small())

    def test_lists_told_come_again_as_they_were(self):
        wish = wish_of("ann has clerk and bob has clerk")
        told = wish.ways(small())
        kept = list(told)
        told.clear()
        self.assertEqual(wish.ways(small()), kept)
        self.assertEqual(len(kept), 9)

    def test_one_wish_asked_of_several_offices(self):
        wish, other = wish_of("ann has clerk"), Office(["ann"], ["boss", "clerk"], [])
        for _ in range(2):
            self.assertEqual(wish.ways(small()), [(8, 0), (16, 0), (32, 0)])
            self.assertEqual(wish.ways(other), [(2, 0)])
            self.assertIs(wish.holds(small(), 16), True)
            self.assertIs(wish.holds(other, 1), False)

    def test_what_is_refused_changes_nothing(self):
        wish = wish_of("ann has boss and zed has boss")
        with self.assertRaises(OfficeError):
            wish.ways(small())
        self.assertEqual(wish.row(), "ann has boss and zed has boss")
        self.assertEqual(wish.ways(Office(["ann", "zed"], ["boss"], [])), [(3, 0)])


if __name__ == "__main__":
    unittest.main()
