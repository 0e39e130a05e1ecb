"""Points 40, 43 and 44, and point 4 of them: deeds done one behind the other, one of them thought away, and copies."""

import unittest

from refusals import RefusalCase, all_deeds, drawn_books, made_book, odd_things

from mightever.errors import Lacks, NoDeed, NoFolk, NoNumber, NoRole, NoState
from mightever.log import Log

SIZES = [(1, 3), (2, 2), (3, 2), (2, 4), (4, 3), (3, 4)]


def small():
    return made_book("ann bob cid", "boss clerk", ["boss clerk"],
                     ["give clerk by boss", "give boss by boss to has clerk", "take boss by boss", "take clerk by boss",
                      "lay clerk", "last boss", "most 2 clerk"])


# Bits: ann boss 1, ann clerk 2, bob boss 4, bob clerk 8, cid boss 16, cid clerk 32.
DEEDS = [("give", "ann", "clerk", "bob"), ("give", "ann", "boss", "bob"), ("take", "bob", "boss", "ann"),
         ("give", "bob", "clerk", "cid"), ("lay", "bob", "clerk", "bob"), ("give", "bob", "boss", "cid")]
STATES = [1, 9, 13, 12, 44, 36, 52]


def log_of(book, start, deeds):
    log = Log(book, start)
    for deed in deeds:
        log.do(deed)
    return log


def drawn_log(book, start, draw, tries):
    """A log of drawn deeds, most of them let by where they stand, and what was done in it."""
    log, deeds, states = Log(book, start), [], [start]
    every = all_deeds(book.office)
    for _ in range(tries):
        let = [deed for deed in every if book.lets(states[-1], deed)]
        if let:
            deeds.append(draw.choice(let))
            states.append(book.done(states[-1], deeds[-1]))
            log.do(deeds[-1])
    return log, deeds, states


def things_that_are_no_number():
    """For a log of six deeds."""
    return odd_things() + [7, 8, 10 ** 9, "1", "0", [1], (1,), 0.0, {1}, b"1"]


class TestDone(RefusalCase):
    def test_numbers_and_states(self):
        log = Log(small(), 1)
        self.assertEqual((log.deeds_done(), log.state_now(), log.state_at(0)), ([], 1, 1))
        for place, deed in enumerate(DEEDS):
            number = log.do(deed)
            self.assertEqual(number, place + 1)
            self.assertIs(type(number), int)
            self.assertEqual(log.deeds_done(), DEEDS[:place + 1])
            self.assertEqual(log.state_now(), STATES[place + 1])
            self.assertEqual([log.state_at(many) for many in range(place + 2)], STATES[:place + 2])

    def test_any_start(self):
        book = small()
        for start in range(64):
            log = Log(book, start)
            self.assertEqual((log.state_now(), log.state_at(0), log.deeds_done()), (start, start, []))
        self.assertEqual(Log(book=book, start=5).state_now(), 5)

    def test_no_start(self):
        for thing in odd_things() + [64, 65, "0"]:
            self.refused_with_it(NoState, thing, Log, small(), thing)

    def test_no_number(self):
        log = log_of(small(), 1, DEEDS)
        for thing in things_that_are_no_number():
            self.refused_with_it(NoNumber, thing, log.state_at, thing)
        self.refused(NoNumber, -1, log.state_at, -1)
        self.refused(NoNumber, True, log.state_at, True)
        self.refused(NoNumber, 1, Log(small(), 1).state_at, 1)
        self.refused(NoNumber, False, Log(small(), 1).state_at, False)

    def test_what_is_refused_gets_no_number_and_changes_nothing(self):
        log = Log(small(), 1)
        refusals = [(NoDeed, None, None), (NoDeed, [], []), (NoDeed, "give ann clerk bob", "give ann clerk bob"),
                    (NoDeed, ("give", "ann", "clerk"), ("give", "ann", "clerk")),
                    (NoDeed, ["give", "ann", "clerk", "bob"], ["give", "ann", "clerk", "bob"]),
                    (NoDeed, ("lay", "ann", "boss", "bob"), ("lay", "ann", "boss", "bob")),
                    (NoDeed, ("do", "ann", "boss", "bob"), ("do", "ann", "boss", "bob")),
                    (NoFolk, "eve", ("give", "eve", "none", "eva")), (NoRole, "none", ("give", "ann", "none", "eva")),
                    (NoFolk, "eva", ("give", "ann", "clerk", "eva"))]
        for place, deed in enumerate(DEEDS):
            for kind, value, wrong in refusals:
                self.refused(kind, value, log.do, wrong)
            for other in all_deeds(log.book.office):
                if log.book.missing(STATES[place], other):
                    self.refused(Lacks, log.book.missing(STATES[place], other), log.do, other)
            self.assertEqual((log.deeds_done(), log.state_now()), (DEEDS[:place], STATES[place]))
            self.assertEqual([log.state_at(many) for many in range(place + 1)], STATES[:place + 1])
            self.refused(NoNumber, place + 1, log.state_at, place + 1)
            self.assertEqual(log.do(deed), place + 1)

    def test_what_is_lacking_is_that_of_the_state_now(self):
        log = Log(small(), 1)
        self.refused(Lacks, [(2, "bob", "has clerk")], log.do, ("give", "ann", "boss", "bob"))
        log.do(("give", "ann", "clerk", "bob"))
        self.refused(Lacks, [(0, "bob", "held")], log.do, ("give", "ann", "clerk", "bob"))
        self.assertEqual(log.do(("give", "ann", "boss", "bob")), 2)
        self.refused(Lacks, [(0, "cid", "not held")], log.do, ("lay", "cid", "clerk", "cid"))
        log.do(("take", "bob", "boss", "ann"))
        self.refused(Lacks, [(6, "bob", "last boss")], log.do, ("take", "bob", "boss", "bob"))
        self.refused(Lacks, [(0, "bob", "no rule")], log.do, ("lay", "bob", "boss", "bob"))

    def test_lists_told_are_the_askers_own(self):
        log = log_of(small(), 1, DEEDS)
        told = log.deeds_done()
        told.append("more")
        told[0] = None
        self.assertEqual(log.deeds_done(), DEEDS)
        self.assertIsNot(log.deeds_done(), log.deeds_done())
        self.assertEqual(log.do(("take", "bob", "clerk", "cid")), 7)

    def test_a_hundred_deeds(self):
        book = made_book("ann", "boss clerk", [], ["give clerk by boss", "lay clerk"])
        log = Log(book, 1)
        for number in range(1, 101):
            deed = ("give" if number % 2 == 1 else "lay", "ann", "clerk", "ann")
            self.assertEqual(log.do(deed), number)
        self.assertEqual([log.state_at(number) for number in range(101)], [1, 3] * 50 + [1])
        self.assertEqual(log.without_deed(1), (1, [(2, [(0, "ann", "not held")])]))

    def test_of_drawn_books(self):
        for book, start, _, draw in drawn_books(40, 60, SIZES):
            log, deeds, states = drawn_log(book, start, draw, 12)
            self.assertEqual((log.deeds_done(), log.state_now()), (deeds, states[-1]))
            self.assertEqual([log.state_at(many) for many in range(len(states))], states)
            again = log_of(book, start, deeds)
            self.assertEqual((again.deeds_done(), again.state_now()), (deeds, states[-1]))


class TestThoughtAway(RefusalCase):
    def test_by_hand(self):
        log = log_of(small(), 1, DEEDS)
        # Without the first, bob never has clerk and so gets no boss; what he does then falls too.
        self.assertEqual(log.without_deed(1), (1, [
            (2, [(2, "bob", "has clerk")]), (3, [(3, "bob", "has boss")]), (4, [(1, "bob", "has boss")]),
            (5, [(0, "bob", "not held")]), (6, [(2, "bob", "has boss")])]))
        self.assertEqual(log.without_deed(2), (1, [
            (3, [(3, "bob", "has boss")]), (4, [(1, "bob", "has boss")]), (6, [(2, "bob", "has boss")])]))
        self.assertEqual(log.without_deed(3), (53, []))
        self.assertEqual(log.without_deed(4), (4, [(6, [(2, "cid", "has clerk")])]))
        self.assertEqual(log.without_deed(5), (60, []))
        self.assertEqual(log.without_deed(6), (36, []))

    def test_a_deed_that_another_barred_is_let_by_then(self):
        book = made_book("ann bob", "boss clerk", [], ["give clerk by boss", "lay clerk", "most 1 clerk", "take clerk by boss"])
        log = log_of(book, 1, [("give", "ann", "clerk", "bob"), ("lay", "bob", "clerk", "bob"),
                               ("give", "ann", "clerk", "ann")])
        # Bob holds clerk still: the bar stands where the third is.
        self.assertEqual(log.without_deed(2), (9, [(3, [(3, "ann", "most 1 clerk")])]))
        # The second falls, since there is nothing to lay down, and the third is done.
        self.assertEqual(log.without_deed(1), (3, [(2, [(0, "bob", "not held")])]))
        self.assertEqual(log.without_deed(3), (1, []))

    def test_all_rules_that_lack_something_are_told(self):
        book = made_book("ann bob", "a b c", [], ["give b by a", "give c by b to not a", "give c by a to has a", "lay b"])
        log = log_of(book, 1, [("give", "ann", "b", "ann"), ("give", "ann", "c", "bob"), ("lay", "ann", "b", "ann")])
        self.assertEqual(log.without_deed(1), (1, [
            (2, [(2, "ann", "has b"), (3, "bob", "has a")]), (3, [(0, "ann", "not held")])]))

    def test_the_log_stays(self):
        log = log_of(small(), 1, DEEDS)
        for number in range(1, 7):
            told = log.without_deed(number)
            self.assertIs(type(told), tuple)
            kept = (told[0], [(place, list(lacks)) for place, lacks in told[1]])
            for _, lacks in told[1]:
                lacks.clear()
            told[1].append("more")
            self.assertEqual(log.without_deed(number), kept)
        self.assertEqual((log.deeds_done(), log.state_now()), (DEEDS, STATES[-1]))
        self.assertEqual([log.state_at(many) for many in range(7)], STATES)

    def test_no_number(self):
        log = log_of(small(), 1, DEEDS)
        for thing in things_that_are_no_number() + [0]:
            self.refused_with_it(NoNumber, thing, log.without_deed, thing)
        self.refused(NoNumber, 0, log.without_deed, 0)
        self.refused(NoNumber, True, log.without_deed, True)
        self.refused(NoNumber, False, log.without_deed, False)
        for number in (0, 1):
            self.refused(NoNumber, number, Log(small(), 1).without_deed, number)

    def test_of_drawn_books(self):
        fallen = 0
        for book, start, _, draw in drawn_books(43, 60, SIZES):
            log, deeds, states = drawn_log(book, start, draw, 10)
            for number in range(1, len(deeds) + 1):
                told = log.without_deed(number)
                self.assertEqual(told, self.gone_through(book, states[number - 1], deeds, number))
                fallen += len(told[1])
            self.assertEqual(log.deeds_done(), deeds)
        self.assertGreater(fallen, 100)

    def gone_through(self, book, state, deeds, number):
        """Another log, begun ahead of the deed, in which the later ones are tried."""
        other, fallen = Log(book, state), []
        for place in range(number, len(deeds)):
            try:
                other.do(deeds[place])
            except Lacks as refusal:
                fallen.append((place + 1, refusal.lacks))
        return (other.state_now(), fallen)


class TestCopied(unittest.TestCase):
    def told(self, log):
        many = len(log.deeds_done())
        return (log.deeds_done(), log.state_now(), [log.state_at(number) for number in range(many + 1)],
                [log.since(who, role) for who in log.book.office.folk for role in log.book.office.roles],
                [log.chain(who, role) for who in log.book.office.folk for role in log.book.office.roles],
                [log.without_deed(number) for number in range(1, many + 1)])

    def test_a_copy_is_the_same(self):
        for many in range(len(DEEDS) + 1):
            log = log_of(small(), 1, DEEDS[:many])
            copy = log.copied()
            self.assertIs(type(copy), Log)
            self.assertIsNot(copy, log)
            self.assertEqual(self.told(copy), self.told(log))

    def test_each_goes_on_by_itself(self):
        log = log_of(small(), 1, DEEDS[:3])
        kept = self.told(log)
        copy = log.copied()
        for deed in DEEDS[3:]:
            copy.do(deed)
        self.assertEqual(self.told(log), kept)
        self.assertEqual(self.told(copy), self.told(log_of(small(), 1, DEEDS)))
        kept = self.told(copy)
        self.assertEqual(log.do(("lay", "bob", "clerk", "bob")), 4)
        self.assertEqual(log.do(("give", "bob", "clerk", "ann")), 5)
        self.assertEqual(log.state_now(), 6)
        self.assertEqual(self.told(copy), kept)

    def test_a_copy_of_a_copy(self):
        log = log_of(small(), 1, DEEDS[:2])
        copy = log.copied()
        copy.do(DEEDS[2])
        again = copy.copied()
        again.do(DEEDS[3])
        self.assertEqual([each.deeds_done() for each in (log, copy, again)], [DEEDS[:2], DEEDS[:3], DEEDS[:4]])
        self.assertEqual([each.state_now() for each in (log, copy, again)], STATES[2:5])

    def test_two_logs_of_one_book(self):
        book = small()
        one, other = Log(book, 1), Log(book, 1)
        one.do(DEEDS[0])
        self.assertEqual((other.deeds_done(), other.state_now()), ([], 1))


if __name__ == "__main__":
    unittest.main()
