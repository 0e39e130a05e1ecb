"""Points 41 and 42, and points 4 to 6 of them: since when a right is held, and by which chain of deeds back to the start."""

import unittest

from refusals import RefusalCase, all_deeds, drawn_books, made_book, odd_things, rights_held, roles_bringing

from mightever.errors import Lacks, NoFolk, NoRole
from mightever.log import Log

SIZES = [(2, 2), (3, 2), (2, 4), (4, 3), (3, 4), (2, 6)]


def house():
    # Bits: ann chief 1, boss 2, clerk 4, aide 8; bob 16, 32, 64, 128; cid 256, 512, 1024, 2048.
    return made_book("ann bob cid", "chief boss clerk aide", ["chief boss", "boss clerk"],
                     ["give boss by chief", "give clerk by boss", "give aide by clerk", "take boss by chief",
                      "take clerk by boss", "lay clerk", "lay boss", "give chief by aide"])


def log_of(book, start, deeds):
    log = Log(book, start)
    for deed in deeds:
        log.do(deed)
    return log


class TestSince(RefusalCase):
    def test_given_taken_laid_down_and_given_again(self):
        log = Log(house(), 1)
        self.assertEqual((log.since("ann", "chief"), log.since("bob", "boss")), (0, None))
        log.do(("give", "ann", "boss", "bob"))
        self.assertEqual((log.since("ann", "chief"), log.since("bob", "boss")), (0, 1))
        log.do(("give", "bob", "clerk", "bob"))
        self.assertEqual((log.since("bob", "boss"), log.since("bob", "clerk")), (1, 2))
        log.do(("take", "ann", "boss", "bob"))
        self.assertEqual((log.since("bob", "boss"), log.since("bob", "clerk")), (None, 2))
        log.do(("lay", "bob", "clerk", "bob"))
        self.assertEqual((log.since("bob", "boss"), log.since("bob", "clerk")), (None, None))
        log.do(("give", "ann", "clerk", "bob"))
        log.do(("give", "ann", "boss", "bob"))
        self.assertEqual((log.since("bob", "boss"), log.since("bob", "clerk"), log.since("ann", "chief")), (6, 5, 0))
        self.assertEqual(log.since("cid", "clerk"), None)

    def test_held_at_the_start_and_lost_and_given_again(self):
        log = Log(house(), 1 | 2)
        self.assertEqual(log.since("ann", "boss"), 0)
        log.do(("lay", "ann", "boss", "ann"))
        self.assertIs(log.since("ann", "boss"), None)
        log.do(("give", "ann", "boss", "ann"))
        self.assertEqual(log.since("ann", "boss"), 2)
        log.do(("give", "ann", "clerk", "bob"))
        self.assertEqual((log.since("ann", "boss"), log.since("ann", "chief"), log.since("bob", "clerk")), (2, 0, 3))

    def test_had_but_not_held_is_none(self):
        log = Log(house(), 1)
        self.assertIs(log.since("ann", "boss"), None)
        self.assertIs(log.chain("ann", "clerk"), None)
        log.do(("give", "ann", "boss", "ann"))
        self.assertEqual((log.since("ann", "boss"), log.since("ann", "clerk")), (1, None))

    def test_whole_numbers(self):
        log = log_of(house(), 1, [("give", "ann", "boss", "bob")])
        for who, role in (("ann", "chief"), ("bob", "boss")):
            self.assertIs(type(log.since(who, role)), int)

    def test_what_is_refused_changes_nothing(self):
        log = log_of(house(), 1, [("give", "ann", "boss", "bob")])
        for deed in [("give", "ann", "boss", "bob"), ("take", "bob", "boss", "bob"), ("lay", "cid", "clerk", "cid")]:
            with self.assertRaises(Lacks):
                log.do(deed)
        self.assertEqual((log.since("bob", "boss"), log.chain("bob", "boss")), (1, [1]))


class TestChain(RefusalCase):
    def test_held_since_the_start(self):
        log = log_of(house(), 1 | 8, [("give", "ann", "boss", "bob")])
        self.assertEqual((log.chain("ann", "chief"), log.chain("ann", "aide")), ([], []))
        self.assertIs(type(log.chain("ann", "chief")), list)

    def test_of_several_deeds(self):
        log = log_of(house(), 1, [("give", "ann", "boss", "bob"), ("give", "bob", "clerk", "cid"),
                                  ("give", "cid", "aide", "cid"), ("give", "cid", "chief", "cid"),
                                  ("give", "cid", "boss", "ann")])
        self.assertEqual(log.chain("bob", "boss"), [1])
        self.assertEqual(log.chain("cid", "clerk"), [2, 1])
        self.assertEqual(log.chain("cid", "aide"), [3, 2, 1])
        self.assertEqual(log.chain("cid", "chief"), [4, 3, 2, 1])
        self.assertEqual(log.chain("ann", "boss"), [5, 4, 3, 2, 1])
        self.assertEqual(log.chain("ann", "clerk"), None)
        self.assertEqual(log.chain("bob", "clerk"), None)

    def test_through_a_role_above_the_one_that_the_rule_names(self):
        log = log_of(house(), 1, [("give", "ann", "boss", "bob"), ("give", "bob", "aide", "cid")])
        # Aide is given by clerk, which bob has by way of boss.
        self.assertEqual(log.chain("cid", "aide"), [2, 1])
        # And clerk is given by boss, which ann has by way of chief.
        log.do(("give", "ann", "clerk", "cid"))
        self.assertEqual(log.chain("cid", "clerk"), [3])

    def test_the_giver_held_several_roles_that_bring_it(self):
        log = log_of(house(), 1, [("give", "ann", "clerk", "bob"), ("give", "ann", "boss", "bob"),
                                  ("give", "bob", "aide", "cid")])
        # Boss stands ahead of clerk among the roles, though bob held clerk longer.
        self.assertEqual(log.chain("cid", "aide"), [3, 2])
        log = log_of(house(), 1 | 64, [("give", "ann", "boss", "bob"), ("give", "bob", "aide", "cid")])
        self.assertEqual(log.chain("cid", "aide"), [2, 1])
        log = log_of(house(), 1 | 64, [("give", "bob", "aide", "cid"), ("give", "ann", "boss", "bob")])
        self.assertEqual(log.chain("cid", "aide"), [1])

    def test_the_first_among_the_roles_and_not_among_the_pairs(self):
        book = made_book("ann bob cid", "low mid top", ["top mid", "mid low"],
                         ["give top by top", "give low by top", "give mid by low"])
        log = log_of(book, 4, [("give", "ann", "top", "bob"), ("give", "ann", "low", "bob"), ("give", "bob", "mid", "cid")])
        self.assertEqual(log.chain("cid", "mid"), [3, 2])
        self.assertEqual(log.chain("bob", "low"), [2])

    def test_the_giver_lost_the_role_behind(self):
        log = log_of(house(), 1, [("give", "ann", "boss", "bob"), ("give", "bob", "clerk", "cid"),
                                  ("take", "ann", "boss", "bob"), ("give", "ann", "boss", "bob")])
        self.assertEqual(log.chain("cid", "clerk"), [2, 1])
        self.assertEqual(log.chain("bob", "boss"), [4])
        log.do(("lay", "bob", "boss", "bob"))
        self.assertEqual((log.chain("cid", "clerk"), log.chain("bob", "boss")), ([2, 1], None))
        log.do(("give", "cid", "aide", "ann"))
        self.assertEqual(log.chain("ann", "aide"), [6, 2, 1])

    def test_one_who_gives_to_oneself(self):
        log = log_of(house(), 1, [("give", "ann", "boss", "bob"), ("give", "bob", "clerk", "bob"), ("lay", "bob", "boss", "bob"),
                                  ("give", "bob", "aide", "bob"), ("give", "bob", "chief", "bob"),
                                  ("give", "bob", "boss", "bob")])
        self.assertEqual(log.chain("bob", "boss"), [6, 5, 4, 2, 1])

    def test_given_again_leads_back_from_the_last_time(self):
        log = log_of(house(), 1, [("give", "ann", "clerk", "cid"), ("give", "ann", "boss", "bob"), ("lay", "cid", "clerk", "cid"),
                                  ("give", "bob", "clerk", "cid")])
        self.assertEqual(log.chain("cid", "clerk"), [4, 2])

    def test_the_first_rule_that_lets_the_deed_by_tells_the_role(self):
        rows = ["give c by b to has a", "give c by a", "give c by b", "give b by a", "give a by a"]
        book = made_book("ann bob cid", "a b c", [], rows)
        deeds = [("give", "ann", "b", "bob"), ("give", "ann", "a", "bob"), ("give", "bob", "c", "cid")]
        # Cid hasn't a, so the second rule lets it by, and bob's a is gone back to.
        self.assertEqual(log_of(book, 1, deeds).chain("cid", "c"), [3, 2])
        # Cid has a, so the first does, and bob's b is.
        self.assertEqual(log_of(book, 1 | 64, deeds).chain("cid", "c"), [3, 1])
        turned = made_book("ann bob cid", "a b c", [], rows[::-1])
        self.assertEqual(log_of(turned, 1, deeds).chain("cid", "c"), [3, 1])

    def test_a_rule_ahead_that_speaks_of_other_deeds(self):
        book = made_book("ann bob", "a b c", [], ["lay a", "most 2 c", "take c by c", "give c by b", "give b by a"])
        log = log_of(book, 1, [("give", "ann", "b", "bob"), ("give", "bob", "c", "ann")])
        self.assertEqual(log.chain("ann", "c"), [2, 1])

    def test_lists_told_are_the_askers_own(self):
        log = log_of(house(), 1, [("give", "ann", "boss", "bob"), ("give", "bob", "clerk", "cid")])
        told = log.chain("cid", "clerk")
        told.append(0)
        self.assertEqual(log.chain("cid", "clerk"), [2, 1])
        log.chain("ann", "chief").append(7)
        self.assertEqual(log.chain("ann", "chief"), [])


class TestRefused(RefusalCase):
    def test_folk_ahead_of_role(self):
        for start in (0, 1, 4095):
            log = Log(house(), start)
            for ask in (log.since, log.chain):
                for thing in odd_things() + ["boss", "clerk"]:
                    self.refused_with_it(NoFolk, thing, ask, thing, "boss")
                    self.refused_with_it(NoFolk, thing, ask, thing, "none")
                    self.refused_with_it(NoFolk, thing, ask, thing, None)
                for thing in odd_things() + ["ann", "bob"]:
                    self.refused_with_it(NoRole, thing, ask, "ann", thing)


class TestDrawn(unittest.TestCase):
    def held_since(self, book, start, deeds):
        """Of the state behind so many deeds, for each right that is held there, since when: told going forward."""
        told = [{right: 0 for right in rights_held(book.office, start)}]
        for number, deed in enumerate(deeds, start=1):
            behind = dict(told[-1])
            if deed[0] == "give":
                behind[(deed[3], deed[2])] = number
            else:
                del behind[(deed[3], deed[2])]
            told.append(behind)
        return told

    def chain(self, book, states, deeds, told, many, right):
        number = told[many].get(right)
        if not number:
            return None if number is None else []
        deed = deeds[number - 1]
        row = book.rules[book.rule_for(states[number - 1], deed) - 1].row()
        bringing = roles_bringing(book.office, row.split(" ")[3])
        held = [role for role in book.office.roles if role in bringing and (deed[1], role) in told[number - 1]]
        return [number] + self.chain(book, states, deeds, told, number - 1, (deed[1], held[0]))

    def test_of_drawn_books(self):
        lengths = {}
        for book, start, _, draw in drawn_books(42, 400, SIZES):
            log, deeds, states = Log(book, start), [], [start]
            for _ in range(14):
                let = [deed for deed in all_deeds(book.office) if book.lets(states[-1], deed)]
                if let:
                    deeds.append(draw.choice(let))
                    states.append(book.done(states[-1], deeds[-1]))
                    log.do(deeds[-1])
            told = self.held_since(book, start, deeds)
            for who in book.office.folk:
                for role in book.office.roles:
                    self.assertEqual(log.since(who, role), told[-1].get((who, role)))
                    chain = log.chain(who, role)
                    self.assertEqual(chain, self.chain(book, states, deeds, told, len(deeds), (who, role)))
                    if chain is not None:
                        self.assertEqual(chain, sorted(set(chain), reverse=True))
                        lengths[len(chain)] = lengths.get(len(chain), 0) + 1
        self.assertTrue(all(lengths.get(many, 0) > 10 for many in range(4)), lengths)


if __name__ == "__main__":
    unittest.main()
