"""Points 1 to 6, over the whole program: each line of its promise, and that nothing handed in or told is tied to it."""

import copy
import itertools
import random
import unittest

from refusals import (all_deeds, all_states, bit_of, drawn_bar, drawn_books, drawn_few, drawn_giving_book, drawn_goals,
                      drawn_letting, drawn_ways, is_of_ways, made_book, plain_arrivals, rights_held)

from mightever.beside import apart, common, is_apart
from mightever.book import Book
from mightever.booktext import book_of, text_of
from mightever.come import Coming, first_row, is_row
from mightever.conditions import met_ways
from mightever.desk import Desk
from mightever.errors import OfficeError
from mightever.log import Log
from mightever.office import Office
from mightever.papers import answer, is_paper, paper
from mightever.rows import rule_of
from mightever.staying import lasting, loss, never_had
from mightever.striking import is_tree, strike

SIZES = [(1, 2), (2, 2), (3, 2), (2, 3)]


def drawn_asked(seed, many, sizes=SIZES):
    """Books with a start, trusted folk and goals, of which about as many come as not."""
    for book, start, trusted, draw in drawn_books(seed, many, sizes, drawn_giving_book):
        yield book, draw.choice([start, drawn_few(draw, book.office)]), trusted, drawn_goals(draw, book.office), draw


def moves(book, trusted):
    """All that is let by of those who are not trusted, in whatever state, as tuples (state, state behind)."""
    deeds = [deed for deed in all_deeds(book.office) if deed[1] not in trusted]
    return [(state, book.done(state, deed)) for state in all_states(book.office) for deed in deeds if book.lets(state, deed)]


def rows_let_by(book, start, trusted, longest):
    """All rows of at most so many deeds that the book lets by, as tuples."""
    deeds = [deed for deed in all_deeds(book.office) if deed[1] not in trusted]
    rows, ahead = [()], [((), start)]
    for _ in range(longest):
        ahead = [(row + (deed,), book.done(state, deed)) for row, state in ahead for deed in deeds if book.lets(state, deed)]
        rows.extend(row for row, _ in ahead)
    return set(rows)


def with_rows(book, rows):
    """The book with these rules behind its own, or None where that is refused."""
    try:
        return Book(book.office, list(book.rules) + [rule_of(row) for row in rows])
    except OfficeError:
        return None


class TestPromise(unittest.TestCase):
    def test_a_row_or_a_paper(self):
        counts = {"row": 0, "never": 0}
        for book, start, trusted, goals, _ in drawn_asked(6, 150):
            kind, thing = answer(book, start, trusted, goals)
            counts[kind] += 1
            if kind == "row":
                state = start
                for deed in thing:
                    self.assertTrue(deed[1] not in trusted and book.lets(state, deed))
                    state = book.done(state, deed)
                self.assertTrue(is_of_ways(state, goals))
                steps = plain_arrivals(book, start, trusted)
                self.assertEqual(len(thing), min(many for each, many in steps.items() if is_of_ways(each, goals)))
            else:
                self.assertFalse(is_of_ways(start, thing))
                self.assertTrue(all(is_of_ways(state, thing) for state in all_states(book.office) if is_of_ways(state, goals)))
                self.assertTrue(all(is_of_ways(state, thing) for state, behind in moves(book, trusted) if is_of_ways(behind, thing)))
        self.assertTrue(all(many > 30 for many in counts.values()), counts)

    def test_whoever_made_the_paper(self):
        let_by = 0
        for book, start, trusted, goals, draw in drawn_asked(61, 150, [(1, 2), (2, 2)]):
            found = Coming(book, start, trusted).states()
            told = paper(book, start, trusted, goals) or []
            for _ in range(10):
                bans = draw.sample(told, draw.randint(0, len(told))) + drawn_ways(draw, book.office, draw.randint(0, 2))
                if is_paper(book, start, trusted, goals, bans):
                    self.assertFalse(any(is_of_ways(state, bans) or is_of_ways(state, goals) for state in found))
                    let_by += 1
        self.assertGreater(let_by, 50)

    def test_more_trusted_folk_a_rule_more_a_bar_more(self):
        for book, start, trusted, _, draw in drawn_asked(62, 120):
            found = set(Coming(book, start, trusted).states())
            self.assertTrue(set(Coming(book, start, trusted + [draw.choice(book.office.folk)]).states()) <= found)
            for drawn, is_more in ((drawn_letting, True), (drawn_bar, False)):
                other = with_rows(book, [drawn(draw, book.office.roles)])
                if other is not None:
                    states = set(Coming(other, start, trusted).states())
                    self.assertTrue(found <= states if is_more else states <= found)

    def test_a_right_is_taken_just_where_a_told_row_does_so(self):
        for book, start, trusted, _, _ in drawn_asked(63, 80):
            found = plain_arrivals(book, start, trusted)
            for who, role in sorted(rights_held(book.office, start)):
                kind, thing = loss(book, start, trusted, who, role)
                bit = bit_of(book.office, who, role)
                self.assertEqual(kind == "row", any(state & bit == 0 for state in found))
                if kind == "row":
                    self.assertTrue(is_row(book, start, trusted, [(0, bit)], thing) and len(thing) > 0)
                else:
                    self.assertTrue(is_paper(book, start, trusted, [(0, bit)], thing))
                    self.assertIn((who, role), lasting(book, start, trusted))

    def test_two_books_are_alike_where_they_let_by_the_same_rows(self):
        counts = {"alike": 0, "apart": 0}
        for book, start, trusted, _, draw in drawn_asked(64, 200, [(1, 2), (1, 3), (2, 1)]):
            rows = [rule.row() for rule in book.rules]
            rows[draw.randrange(len(rows))] = draw.choice([drawn_letting, drawn_bar])(draw, book.office.roles)
            try:
                other = Book(book.office, [rule_of(row) for row in rows])
            except OfficeError:
                continue
            both = [rows_let_by(each, start, trusted, 4) for each in (book, other)]
            differing = both[0] ^ both[1]
            told = apart(book, other, start, trusted)
            if told is None:
                self.assertEqual(differing, set())
                counts["alike"] += 1
            elif len(told[0]) < 4:
                self.assertEqual(len(told[0]) + 1, min(len(row) for row in differing))
                self.assertIn((*told[0], told[1]), both[told[2] - 1] - both[2 - told[2]])
                counts["apart"] += 1
        self.assertTrue(all(many > 20 for many in counts.values()), counts)

    def test_rules_to_be_struck(self):
        counts = {0: 0, 1: 0, 2: 0}
        for book, start, trusted, goals, draw in drawn_asked(65, 250):
            wanted = [thing for thing in (drawn_goals(draw, book.office), drawn_goals(draw, book.office))
                      if first_row(book, start, [], thing) is not None]
            numbers, tree = strike(book, start, trusted, goals, wanted)
            if numbers is not None:
                left = book.without(numbers)
                self.assertEqual(answer(left, start, trusted, goals)[0], "never")
                self.assertTrue(all(answer(left, start, [], thing)[0] == "row" for thing in wanted))
                counts[min(len(numbers), 2)] += 1
            if tree is not None:
                self.assertTrue(is_tree(book, start, trusted, goals, wanted, 4 if numbers is None else len(numbers), tree))
        self.assertTrue(all(many > 5 for many in counts.values()), counts)

    def test_each_right_with_since_when_and_by_which_chain(self):
        chains = 0
        for book, start, _, _, draw in drawn_asked(66, 100):
            log = Log(book, start)
            for _ in range(25):
                let_by = [deed for deed in all_deeds(book.office) if book.lets(log.state_now(), deed)]
                if let_by:
                    log.do(draw.choice(let_by))
            for who, role in book.office.rights(log.state_now()):
                since, chain = log.since(who, role), log.chain(who, role)
                self.assertEqual(chain[:1], [since] if since else [])
                self.assertEqual(chain, sorted(set(chain), reverse=True))
                chains += len(chain) > 1
                for number in chain:
                    self.assertEqual(log.deeds_done()[number - 1][0], "give")
        self.assertGreater(chains, 30)

    def test_a_deed_struck_from_the_log(self):
        for book, start, _, _, draw in drawn_asked(67, 60):
            log = Log(book, start)
            for _ in range(10):
                let_by = [deed for deed in all_deeds(book.office) if book.lets(log.state_now(), deed)]
                if let_by:
                    log.do(draw.choice(let_by))
            deeds = log.deeds_done()
            for number in range(1, len(deeds) + 1):
                again, fallen = Log(book, start), []
                for later, deed in enumerate(deeds, start=1):
                    lacks = book.missing(again.state_now(), deed)
                    if later != number and lacks:
                        fallen.append((later, lacks))
                    elif later != number:
                        again.do(deed)
                self.assertEqual(log.without_deed(number), (again.state_now(), fallen))


def spoil(thing):
    """Changes all lists that a told thing holds, and the thing itself where it is one."""
    if isinstance(thing, (list, tuple)):
        for part in thing:
            spoil(part)
    if isinstance(thing, list):
        thing.append("more")
        thing.reverse()


class TestHandedInAndTold(unittest.TestCase):
    def questions(self, book, start, trusted, goals, draw):
        """Questions and the things that are handed in with them."""
        office, wanted = book.office, [thing for thing in (drawn_goals(draw, book.office),) if first_row(book, start, [], thing) is not None]
        who, role, deed = office.folk[0], office.roles[-1], draw.choice(all_deeds(office))
        other = Book(office, book.rules[1:])
        row = first_row(book, start, trusted, [(start ^ 1, 0)]) or []
        tree = strike(book, start, trusted, goals, wanted)[1] or ([], "row", [], [])
        bans = paper(book, start, trusted, goals) or []
        return [(office.bringing, role), (office.holders, start, role), (office.rights, start), (office.state_of, [(who, role)] * 2),
                (met_ways, goals, goals + [(0, 0)]), (book.deeds,), (book.missing, start, deed), (book.ways, deed),
                (Coming(book, start, trusted).states,), (Coming(book, start, trusted).row, start),
                (first_row, book, start, trusted, goals), (is_row, book, start, trusted, goals, row),
                (answer, book, start, trusted, goals), (paper, book, start, trusted, goals),
                (is_paper, book, start, trusted, goals, bans), (loss, book, start, trusted, who, role),
                (lasting, book, start, trusted), (never_had, book, start, trusted), (common, book, other, start, trusted),
                (apart, book, other, start, trusted), (is_apart, book, other, start, trusted, row, deed, 1),
                (strike, book, start, trusted, goals, wanted), (is_tree, book, start, trusted, goals, wanted, 2, tree)]

    def test_nothing_is_changed_and_lists_told_are_the_askers_own(self):
        for book, start, trusted, goals, draw in drawn_asked(4, 80):
            for ask, *things in self.questions(book, start, trusted, goals, draw):
                kept = repr(things)
                told = ask(*things)
                expected = copy.deepcopy(told)
                self.assertEqual(repr(things), kept, ask)
                spoil(told)
                self.assertEqual(repr(things), kept, ask)
                self.assertEqual(ask(*things), expected, ask)

    def test_of_things_made_alike(self):
        for book, start, trusted, goals, draw in drawn_asked(41, 60):
            kept = draw.getstate()
            first = [ask(*things) for ask, *things in self.questions(book, start, trusted, goals, draw)]
            draw.setstate(kept)
            alike = book_of(text_of(book))
            again = [ask(*things) for ask, *things in self.questions(alike, start, list(trusted), list(goals), draw)]
            self.assertEqual(first, again)

    def test_lists_changed_after_they_were_handed_in(self):
        folk, roles, pairs, trusted = ["ann", "bob"], ["x", "y"], [("x", "y")], ["bob"]
        office = Office(folk, roles, pairs)
        rules = [rule_of("give y by x"), rule_of("lay y")]
        book = Book(office, rules)
        coming = Coming(book, 1, trusted)
        for thing in (folk, roles, pairs, rules, trusted):
            thing.clear()
        self.assertEqual((office.folk, office.roles, office.pairs, len(book.rules)), (("ann", "bob"), ("x", "y"), (("x", "y"),), 2))
        self.assertEqual(coming.states(), Coming(book, 1, ["bob"]).states())
        self.assertNotEqual(coming.states(), Coming(book, 1, ["ann"]).states())

    def test_at_a_desk(self):
        for book, start, trusted, _, draw in drawn_asked(42, 40):
            office = book.office
            rights = " ".join(f"{who} {role}" for who, role in sorted(rights_held(office, start)))
            desks = [Desk(text_of(book)), Desk(text_of(book))]
            for desk in desks:
                self.assertEqual(desk.say(("start " + rights).rstrip()), "ok")
                self.assertEqual(desk.say(" ".join(["trust"] + trusted)), "ok")
            wish = f"{draw.choice(office.folk)} has {draw.choice(office.roles)}"
            right = f"{draw.choice(office.folk)} {draw.choice(office.roles)}"
            requests = ["rights", "lasting", "neverhad", "rules", "might " + wish, "mend " + wish, "lose " + right, "has " + right,
                        "beside\n" + text_of(Book(office, book.rules[1:])), "check 1/0 for " + wish, "since " + right]
            first = [desks[0].say(request) for request in requests]
            draw.shuffle(requests)
            again = {request: desks[1].say(request) for request in requests}
            self.assertEqual(sorted(first), sorted(again.values()))
            self.assertEqual([desks[0].say(request) for request in again], list(again.values()))


class TestBounds(unittest.TestCase):
    """The largest things that the bounds of point 3 let by."""

    def large(self):
        rows = ["give x by x to has y", "give y by x to not z", "give z by x", "take x by x from has z", "take y by x", "take z by x",
                "lay x if has z and not y", "lay y", "most 3 x", "last x", "both x z", "most 2 z"]
        return made_book("ann bob cid dan", "x y z", ["x y"], rows)

    def test_of_the_largest_office(self):
        book, start = self.large(), 1
        self.assertGreater(len(Coming(book, start, []).states()), 100)
        self.assertIs(apart(book, Book(book.office, book.rules[::-1]), start, []), None)
        self.assertEqual(common(book, book, start, []), Coming(book, start, []).states())
        self.assertIn(("ann", "x"), sorted(rights_held(book.office, start)))
        self.assertEqual(lasting(book, start, list(book.office.folk)), [("ann", "x")])

    def test_of_250_goals(self):
        book, draw = self.large(), random.Random(3)
        full = 2 ** 12 - 1
        goals = [(state, full ^ state) for state in draw.sample(range(4096), 250)]
        kind, thing = answer(book, 1, [], goals)
        self.assertEqual(kind == "row", any(is_of_ways(state, goals) for state in Coming(book, 1, []).states()))
        numbers, tree = strike(book, 1, [], goals, [goals[:1]] if first_row(book, 1, [], goals[:1]) is not None else [])
        self.assertTrue(numbers == [] or tree is not None)

    def test_of_rows_and_logs_of_100_deeds(self):
        book = made_book("ann", "x y", [], ["give y by x", "lay y"])
        row = [("give", "ann", "y", "ann"), ("lay", "ann", "y", "ann")] * 50
        self.assertIs(is_row(book, 1, [], [(1, 2)], row), True)
        self.assertIs(is_apart(book, made_book("ann", "x y", [], ["give y by x", "lay y", "lay x"]), 1, [], row, ("lay", "ann", "x", "ann"), 2),
                      True)
        steps = [(deed, 1 if deed[0] == "give" else 2) for deed in row]
        tree = ([], "row", steps, [])
        self.assertIs(is_tree(book, 1, [], [(1, 2)], [], 1, tree), True)
        desk = Desk(text_of(book))
        desk.say("start ann x")
        for number, word in enumerate(itertools.islice(itertools.cycle(["give ann y ann", "lay ann y"]), 100), start=1):
            self.assertEqual(desk.say(word), f"ok {number}")
        self.assertEqual(desk.say("without 1"), "ok 2")
        self.assertEqual(desk.say("without 100"), "ok")
        self.assertEqual(desk.say("without 101"), "no NoNumber 101")

    def test_of_a_long_request(self):
        desk = Desk(text_of(self.large()))
        bans = " ".join(["1/0 8/0 64/0 512/0"] * 200)
        self.assertEqual(desk.say(f"check {bans} for ann has x"), "ok yes")
        self.assertEqual(desk.say(f"check {bans} 4096/0 for ann has x"), "ok no")


if __name__ == "__main__":
    unittest.main()
