"""Points 60 to 62, and points 4 to 6 of them: what lies within a ban, what leads into it, and what is let by as a paper."""

import itertools
import unittest

from refusals import (RefusalCase, all_deeds, all_states, drawn_books, drawn_ways, is_of_way, is_of_ways, made_book, odd_things,
                      plain_arrivals)

from mightever.come import Coming
from mightever.errors import NoFolk, NoState
from mightever.papers import answer, is_paper, leading, lies_within, paper

SIZES = [(1, 1), (1, 3), (2, 2), (3, 2), (2, 3), (4, 2)]


def all_ways(bits):
    return list(itertools.product(range(2 ** bits), repeat=2))


def states_of(way, bits):
    return {state for state in range(2 ** bits) if is_of_way(state, way)}


def is_nothing(way):
    return way[0] & way[1] != 0


def within(way, ban):
    """That the ban adds nothing to what the way asks for, as point 60 tells."""
    return way[0] | ban[0] == way[0] and way[1] | ban[1] == way[1]


def let_by(book, start, trusted, goals, bans):
    """Point 62 row by row, by all deeds of the book and all their ways."""
    if any(is_of_way(start, ban) for ban in bans):
        return False
    if not all(is_nothing(way) or any(within(way, ban) for ban in bans) for way in goals):
        return False
    for ban in bans:
        for deed in book.deeds():
            if deed[1] not in trusted:
                for way in book.ways(deed):
                    into = leading(ban, way, book.office.bit(deed[3], deed[2]), deed[0] == "give")
                    if into is not None and not any(within(into, other) for other in bans):
                        return False
    return True


def whole_bans(book, states):
    """For each state the ban that is of this one alone."""
    full = 2 ** book.office.bits() - 1
    return [(state, full - state) for state in states]


class TestLiesWithin(unittest.TestCase):
    def test_by_hand(self):
        self.assertIs(lies_within((5, 2), (1, 2)), True)
        self.assertIs(lies_within((1, 2), (1, 2)), True)
        self.assertIs(lies_within((1, 2), (5, 2)), False)
        self.assertIs(lies_within((5, 0), (1, 2)), False)
        self.assertIs(lies_within((2, 1), (1, 2)), False)
        self.assertIs(lies_within((0, 0), (0, 0)), True)
        self.assertIs(lies_within((4095, 0), (0, 0)), True)
        self.assertIs(lies_within((0, 0), (0, 2048)), False)
        self.assertIs(lies_within((3, 3), (1, 2)), True)
        self.assertIs(lies_within((1, 2), (3, 3)), False)

    def test_of_all_ways_of_three_bits(self):
        for way in all_ways(3):
            for ban in all_ways(3):
                told = lies_within(way, ban)
                self.assertIs(told, within(way, ban))
                if not is_nothing(way):
                    self.assertEqual(told, states_of(way, 3) <= states_of(ban, 3))


class TestLeading(unittest.TestCase):
    def test_by_hand(self):
        self.assertEqual(leading((1, 2), (4, 0), 1, True), (4, 3))
        self.assertEqual(leading((1, 2), (4, 0), 2, False), (7, 0))
        self.assertIs(leading((1, 2), (4, 0), 2, True), None)
        self.assertIs(leading((1, 2), (4, 0), 1, False), None)
        self.assertEqual(leading((1, 2), (4, 0), 8, True), (5, 10))
        self.assertEqual(leading((1, 2), (4, 0), 8, False), (13, 2))
        # What is asked for by the one and barred by the other comes to nothing.
        self.assertIs(leading((1, 2), (2, 0), 1, True), None)
        self.assertIs(leading((3, 0), (0, 2), 1, True), None)
        # The way has the bit in its held, in its free, or in both.
        self.assertIs(leading((1, 0), (1, 0), 1, True), None)
        self.assertEqual(leading((1, 0), (0, 1), 1, True), (0, 1))
        self.assertIs(leading((0, 1), (0, 1), 1, False), None)
        self.assertEqual(leading((0, 1), (1, 0), 1, False), (1, 0))
        self.assertIs(leading((1, 0), (1, 1), 1, True), None)
        self.assertEqual(leading((0, 0), (0, 0), 1, True), (0, 1))
        self.assertEqual(leading((0, 0), (0, 0), 1, False), (1, 0))
        # The ban is nothing, by the bit or by another one.
        self.assertIs(leading((1, 1), (0, 0), 1, True), None)
        self.assertIs(leading((1, 1), (0, 0), 1, False), None)
        self.assertIs(leading((2, 2), (0, 0), 1, True), None)

    def test_the_last_bit(self):
        self.assertEqual(leading((2048, 1024), (1, 2), 2048, True), (1, 2 | 1024 | 2048))
        self.assertEqual(leading((1024, 2048), (1, 2), 2048, False), (1 | 1024 | 2048, 2))

    def as_told(self, ban, way, bit, sets):
        """The masks that point 61 tells, bit by bit."""
        asked, barred = (0, 1) if sets else (1, 0)
        if ban[barred] & bit:
            return None
        into = [way[0] | ban[0], way[1] | ban[1]]
        into[asked] = way[asked] | sum(one for one in (1, 2, 4, 8) if ban[asked] & one and one != bit)
        into[barred] = into[barred] | bit
        return None if into[0] & into[1] else tuple(into)

    def test_of_all_ways_of_three_bits(self):
        states = {way: states_of(way, 3) for way in all_ways(3)}
        for ban in all_ways(3):
            for way in all_ways(3):
                for bit in (1, 2, 4):
                    for sets in (True, False):
                        told = leading(ban, way, bit, sets)
                        self.assertEqual(told, self.as_told(ban, way, bit, sets))
                        led = {state for state in states[way]
                               if (state & bit == 0) == sets and state ^ bit in states[ban]}
                        self.assertEqual(led, set() if told is None else states[told])
                        self.assertTrue(told is None or type(told) is tuple and not is_nothing(told))

    def test_of_ways_of_four_bits(self):
        ways = [way for way in all_ways(4) if way[0] & way[1] in (0, 8)]
        for ban in ways[::3]:
            for way in ways[::5]:
                for bit in (1, 2, 4, 8):
                    for sets in (True, False):
                        self.assertEqual(leading(ban, way, bit, sets), self.as_told(ban, way, bit, sets))


class TestRefused(RefusalCase):
    def asks(self):
        book = made_book("ann bob", "boss clerk", [], ["give clerk by boss"])
        yield lambda start, trusted: is_paper(book, start, trusted, [(4, 0)], [(4, 0)])
        yield lambda start, trusted: is_paper(book, start, trusted, [], [(0, 0)])
        yield lambda start, trusted: paper(book, start, trusted, [(4, 0)])
        yield lambda start, trusted: paper(book, start, trusted, [])
        yield lambda start, trusted: answer(book, start, trusted, [(0, 0)])
        yield lambda start, trusted: answer(book, start, trusted, [(1, 1)])

    def test_state_ahead_of_folk(self):
        for ask in self.asks():
            for thing in odd_things() + [16, "0"]:
                self.refused_with_it(NoState, thing, ask, thing, [])
                self.refused_with_it(NoState, thing, ask, thing, ["eve"])
            for thing in odd_things() + ["eve", "boss", 0]:
                self.refused_with_it(NoFolk, thing, ask, 1, [thing])
                self.refused_with_it(NoFolk, thing, ask, 1, ["bob", "ann", "bob", thing, "eva"])
            ask(1, ["ann", "bob", "ann"])


class TestIsPaper(unittest.TestCase):
    def small(self):
        # Bits: ann boss 1, ann clerk 2, bob boss 4, bob clerk 8. Boss is given by boss alone, clerk by boss.
        return made_book("ann bob", "boss clerk", [], ["give boss by boss", "give clerk by boss", "take clerk by boss", "lay clerk"])

    def test_by_hand(self):
        book = self.small()
        # Who begins without boss never sees it, if all do.
        bans = [(1, 0), (4, 0)]
        self.assertIs(is_paper(book, 0, [], [(1, 0)], bans), True)
        self.assertIs(is_paper(book, 8, [], [(1, 0), (4, 2)], bans), True)
        # A ban left out: bob's boss leads into ann's.
        self.assertIs(is_paper(book, 0, [], [(1, 0)], [(1, 0)]), False)
        # Unless bob is trusted; ann without boss doesn't give.
        self.assertIs(is_paper(book, 0, ["bob"], [(1, 0)], [(1, 0)]), True)
        self.assertIs(is_paper(book, 0, ["ann"], [(1, 0)], [(1, 0)]), False)
        # The start is banned.
        self.assertIs(is_paper(book, 1, [], [(1, 0)], bans), False)
        self.assertIs(is_paper(book, 4, [], [(1, 0)], bans), False)
        # A way of the goals is missed.
        self.assertIs(is_paper(book, 0, [], [(1, 0), (2, 0)], bans), False)
        self.assertIs(is_paper(book, 0, [], [(0, 0)], bans), False)
        self.assertIs(is_paper(book, 0, [], [(1, 0), (1, 1)], bans), True)
        # A bit more is asked for than may be, so that there is a way round it.
        self.assertIs(is_paper(book, 0, [], [(1, 2)], [(1, 2), (4, 0)]), False)
        # A ban put in that bans more than never comes.
        self.assertIs(is_paper(book, 4, ["bob"], [(1, 0)], [(1, 0), (2, 0)]), True)
        self.assertIs(is_paper(book, 5, ["bob"], [], [(8, 0)]), False)

    def test_the_paper_without_bans(self):
        for start in range(16):
            for goals in ([], [(1, 1)], [(3, 2), (15, 15)]):
                self.assertIs(is_paper(self.small(), start, [], goals, []), True)
            self.assertIs(is_paper(self.small(), start, [], [(1, 1), (1, 0)], []), False)

    def test_bans_that_are_nothing_or_stand_twice(self):
        book = self.small()
        for bans in ([(1, 0), (4, 0), (2, 2)], [(15, 15), (1, 0), (4, 0)], [(4, 0), (1, 0), (4, 0), (1, 0)],
                     [(1, 0), (5, 8), (4, 0), (4, 3)]):
            self.assertIs(is_paper(book, 0, [], [(1, 0)], bans), True)
        # A ban that is nothing has nothing within it, whatever bits it names.
        self.assertIs(is_paper(book, 0, [], [(1, 0)], [(1, 1), (4, 0)]), False)
        self.assertIs(is_paper(book, 0, [], [(5, 0)], [(1, 4), (5, 5)]), False)
        self.assertIs(is_paper(book, 0, [], [(5, 0)], [(1, 0), (5, 4)]), False)
        self.assertIs(is_paper(book, 0, [], [], [(1, 1), (5, 5)]), True)

    def test_a_narrow_ban_is_helped_by_a_wide_one_wherever_it_stands(self):
        book = self.small()
        narrow = [(1, 4), (5, 0), (1, 2), (4, 1)]
        for bans in itertools.permutations(narrow[:2] + [(1, 0), (4, 0)]):
            self.assertIs(is_paper(book, 0, [], [(1, 0)], list(bans)), True)
        for bans in itertools.permutations(narrow):
            self.assertIs(is_paper(book, 0, [], [(1, 4), (5, 0)], list(bans)), let_by(book, 0, [], [(1, 4), (5, 0)], bans))

    def test_two_bans_together_are_not_one(self):
        # All states with ann's boss are banned, by two bans; but the way lies within neither, as one of the goals,
        book = made_book("ann bob", "boss clerk", [], ["give clerk by clerk"])
        self.assertIs(is_paper(book, 0, [], [(1, 0)], [(1, 2), (3, 0), (8, 0), (2, 0)]), False)
        self.assertIs(is_paper(book, 0, [], [(1, 2), (3, 0)], [(1, 2), (3, 0), (8, 0), (2, 0)]), True)
        # nor as what leads into bob's boss.
        book = made_book("ann bob", "boss clerk", [], ["give boss by boss"])
        self.assertIs(is_paper(book, 0, [], [(4, 0)], [(1, 2), (3, 0), (4, 0)]), False)
        self.assertIs(is_paper(book, 0, [], [(4, 0)], [(1, 2), (3, 0), (4, 0), (1, 0)]), True)

    def test_each_deed_counts(self):
        # What might be given, taken and laid down, each by one rule.
        for row, start, goals in [("give clerk by boss", 1, [(2, 0)]), ("take clerk by boss", 3, [(0, 2)]),
                                  ("lay clerk", 3, [(0, 2)])]:
            book = made_book("ann bob", "boss clerk", [], [row])
            self.assertIs(is_paper(book, start, [], goals, goals), False)
            self.assertIs(is_paper(book, start, ["ann"], goals, goals + [(4, 0)]), True)
            self.assertIs(is_paper(made_book("ann bob", "boss clerk", [], []), start, [], goals, goals), True)

    def test_bars_count(self):
        rows = ["give clerk by boss", "take clerk by boss"]
        for bar, start, goals in [("most 1 clerk", 9, [(10, 0)]), ("both boss clerk", 1, [(3, 0)]), ("last clerk", 9, [(0, 10)])]:
            self.assertIs(is_paper(made_book("ann bob", "boss clerk", [], rows), start, [], goals, goals), False)
            self.assertIs(is_paper(made_book("ann bob", "boss clerk", [], rows + [bar]), start, [], goals, goals), True)

    def test_all_states_that_never_come(self):
        for book, start, trusted, _ in drawn_books(620, 60, SIZES):
            found = plain_arrivals(book, start, trusted)
            bans = whole_bans(book, [state for state in all_states(book.office) if state not in found])
            self.assertIs(is_paper(book, start, trusted, bans, bans), True)
            for place in range(0, len(bans), 17):
                self.assertIs(is_paper(book, start, trusted, bans, bans[:place] + bans[place + 1:]), False)
                left = bans[:place] + bans[place + 1:]
                self.assertIs(is_paper(book, start, trusted, left, left), let_by(book, start, trusted, left, left))
            for state in found:
                more = bans + whole_bans(book, [state])
                self.assertIs(is_paper(book, start, trusted, [], more), False)

    def test_as_many_bans_as_there_may_be(self):
        rows = ["give c by c to has c", "give b by b", "give a by c to not b", "take a by b", "take c by b", "lay b", "most 2 b",
                "last c", "both a b"]
        book = made_book("ann bob cid dan", "a b c", ["a c", "b c"], rows)
        found = Coming(book, 1, []).states()
        bans = whole_bans(book, sorted(set(range(4096)) - set(found)))
        self.assertGreater(len(bans), 2000)
        self.assertIs(is_paper(book, 1, [], bans[:250], bans), True)
        # One left out: then it is let by just where no deed leads from this state to one that is banned.
        counts = {True: 0, False: 0}
        for place in range(0, len(bans), 20):
            state, left = bans[place][0], bans[:place] + bans[place + 1:]
            expected = all(book.done(state, deed) in found for deed in book.deeds() if book.lets(state, deed))
            if counts[expected] < 4:
                self.assertIs(is_paper(book, 1, [], left[:250], left), expected)
                counts[expected] += 1
        self.assertTrue(all(counts.values()), counts)
        wide = paper(book, 1, [], bans)
        self.assertIs(is_paper(book, 1, [], bans, wide), True)
        # Narrow ones ahead of the wide ones, so that what is led into is looked for far behind.
        many = (bans + wide)[-4096:]
        self.assertIs(is_paper(book, 1, [], bans[:250], many), True)

    def drawn_lists(self, book, start, trusted, goals, draw):
        """Papers that are told, spoilt, and lists of bans that are drawn."""
        told = paper(book, start, trusted, goals) or []
        yield told
        yield drawn_ways(draw, book.office, draw.randint(1, 4))
        yield told + drawn_ways(draw, book.office, 1)
        for place, (held, free) in enumerate(told):
            yield told[:place] + told[place + 1:]
            bit = draw.choice([bit for bit in whole_bits(book) if (held | free) & bit])
            yield told[:place] + [(held & ~bit, free & ~bit)] + told[place + 1:]
            yield told[:place] + [(held | bit, free | bit)] + told[place + 1:]
            other = draw.choice(whole_bits(book))
            yield told[:place] + [(held | other & ~free, free)] + told[place + 1:]
            yield told[:place] + [(held | other & ~free, free), (held, free | other & ~held)] + told[place + 1:]

    def test_lists_held_against_the_point(self):
        counts = {True: 0, False: 0}
        for book, start, trusted, draw in drawn_books(62, 160, SIZES):
            goals = drawn_ways(draw, book.office, draw.randint(1, 3))
            found = plain_arrivals(book, start, trusted)
            for bans in self.drawn_lists(book, start, trusted, goals, draw):
                for trusting in (trusted, [], list(book.office.folk)):
                    kept = (list(bans), list(goals), list(trusting))
                    told = is_paper(book, start, trusting, goals, bans)
                    self.assertIs(told, let_by(book, start, trusting, goals, bans))
                    self.assertEqual((bans, goals, trusting), kept)
                    counts[told] += bans != []
                    if told and trusting == trusted:
                        self.assertFalse(any(is_of_ways(state, bans) or is_of_ways(state, goals) for state in found))
        self.assertTrue(counts[True] > 200 and counts[False] > 200, counts)

    def test_a_paper_let_by_for_fewer_trusted_is_let_by_for_more(self):
        for book, start, trusted, draw in drawn_books(621, 60, SIZES):
            goals = drawn_ways(draw, book.office, 2)
            told = paper(book, start, [], goals)
            if told is not None:
                self.assertIs(is_paper(book, start, trusted, goals, told), True)
                self.assertIs(is_paper(book, start, list(book.office.folk), goals, told), True)


def whole_bits(book):
    return [2 ** place for place in range(book.office.bits())]


class TestDeedsAlone(unittest.TestCase):
    def test_a_ban_is_left_only_outwards(self):
        """No deed leads from a state that isn't banned into one that is, for a paper that is let by."""
        for book, start, trusted, draw in drawn_books(622, 80, SIZES):
            goals = drawn_ways(draw, book.office, 2)
            bans = paper(book, start, trusted, goals) or []
            for state in all_states(book.office):
                for deed in all_deeds(book.office):
                    if not is_of_ways(state, bans) and deed[1] not in trusted and book.lets(state, deed):
                        self.assertFalse(is_of_ways(book.done(state, deed), bans))


if __name__ == "__main__":
    unittest.main()
