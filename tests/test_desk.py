"""Points 93 to 97, and points 4 to 6 of them: requests that a desk is told, and what it answers."""

import random
import unittest

from refusals import (RefusalCase, all_deeds, drawn_bar, drawn_book, drawn_giving_book, drawn_letting, is_of_ways, odd_things,
                      plain_arrivals)

from mightever.beside import apart
from mightever.booktext import book_of, text_of
from mightever.come import Coming
from mightever.desk import Desk
from mightever.errors import Doubled, NoBook, NoFolk, NoRole, OfficeError, Ring, TooMany
from mightever.log import Log
from mightever.office import Office
from mightever.papers import answer, is_paper
from mightever.rows import wish_of
from mightever.staying import lasting, loss, never_had
from mightever.striking import strike

# Bits: ann boss 1, ann clerk 2, bob boss 4, bob clerk 8.
TEXT = """folk ann bob
roles boss clerk
above boss clerk
give clerk by boss
give boss by boss to has clerk
take boss by boss
last boss"""


def deed_words(deed):
    return " ".join(deed[:3] if deed[0] == "lay" else deed)


def rights_words(rights):
    return [f"{who} {role}" for who, role in rights]


def lacks_words(lacks):
    return ["{} {} {}".format(*lack) for lack in lacks]


def told(things):
    """The answer that tells these things, one behind the other."""
    return "ok " + "; ".join(str(thing) for thing in things) if things else "ok"


def refusal_words(refusal):
    values = list(vars(refusal).values())
    if values and isinstance(values[0], list):
        values = ["; ".join(lacks_words(values[0]))]
    return " ".join(["no", type(refusal).__name__] + [str(value) for value in values])


class PlainDesk:
    """A book, a log and trusted folk by themselves, asked by name and things, and the answer that a desk should give."""

    def __init__(self, text):
        self.book = book_of(text)
        self.log = Log(self.book, 0)
        self.trusted = []

    def now(self):
        return self.book, self.log.state_now(), self.trusted

    def ask(self, name, *things):
        try:
            return getattr(self, "ask_" + name)(*things)
        except OfficeError as refusal:
            return refusal_words(refusal)

    def ask_start(self, *rights):
        self.log = Log(self.book, self.book.office.state_of(rights))
        return "ok"

    def ask_trust(self, *names):
        Coming(self.book, 0, list(names))
        self.trusted = list(names)
        return "ok"

    def ask_do(self, deed):
        return told([self.log.do(deed)])

    def ask_lacks(self, deed):
        return told(lacks_words(self.book.missing(self.log.state_now(), deed)))

    def ask_rights(self):
        return told(rights_words(self.book.office.rights(self.log.state_now())))

    def ask_has(self, who, role):
        return "ok yes" if self.book.office.has(self.log.state_now(), who, role) else "ok no"

    def ask_since(self, who, role):
        since = self.log.since(who, role)
        return "ok none" if since is None else f"ok {since}"

    def ask_chain(self, who, role):
        chain = self.log.chain(who, role)
        return "ok none" if chain is None else told(chain)

    def ask_without(self, number):
        return told([later for later, _ in self.log.without_deed(number)[1]])

    def ask_then(self, number):
        return told(rights_words(self.book.office.rights(self.log.without_deed(number)[0])))

    def ask_rules(self):
        return "ok\n" + text_of(self.book)

    def answered(self, kind, thing):
        if kind == "row":
            return " ".join(["ok by"] + ["; ".join(map(deed_words, thing))] * (thing != []))
        return " ".join(["ok never"] + ["; ".join(f"{held}/{free}" for held, free in thing)] * (thing != []))

    def ask_might(self, wish):
        return self.answered(*answer(*self.now(), wish_of(wish).ways(self.book.office)))

    def ask_lose(self, who, role):
        return self.answered(*loss(*self.now(), who, role))

    def ask_check(self, bans, wish):
        goals = wish_of(wish).ways(self.book.office)
        known = all(self.book.office.is_state(mask) for ban in bans for mask in ban)
        return "ok yes" if known and is_paper(*self.now(), goals, bans) else "ok no"

    def ask_lasting(self):
        return told(rights_words(lasting(*self.now())))

    def ask_neverhad(self):
        return told(rights_words(never_had(*self.now())))

    def ask_mend(self, *wishes):
        goals = [wish.ways(self.book.office) for wish in [wish_of(wish) for wish in wishes]]
        numbers = strike(*self.now(), goals[0], goals[1:])[0]
        return "ok none" if numbers is None else told(numbers)

    def ask_beside(self, text):
        parted = apart(self.book, book_of(text), *self.now()[1:])
        if parted is None:
            return "ok alike"
        row, deed, which = parted
        return f"ok apart {which} " + "; ".join(map(deed_words, row + [deed]))


def request_of(name, *things):
    """The request that asks this."""
    if name in ("start", "trust"):
        return " ".join([name] + [thing if name == "trust" else " ".join(thing) for thing in things])
    if name in ("do", "lacks"):
        return " ".join([name] * (name == "lacks") + [deed_words(things[0])])
    if name == "check":
        return " ".join(["check"] + [f"{held}/{free}" for held, free in things[0]] + ["for", things[1]])
    if name == "mend":
        return "mend " + " / ".join(things)
    if name == "beside":
        return "beside\n" + things[0]
    return " ".join([name] + [str(thing) for thing in things])


class Drawing:
    """Questions that are drawn for a desk, a few of them of what isn't there."""

    def __init__(self, draw, plain):
        self.draw, self.plain, self.office = draw, plain, plain.book.office

    def who(self):
        return "eve" if self.draw.random() < 0.03 else self.draw.choice(self.office.folk)

    def role(self):
        return "no" if self.draw.random() < 0.03 else self.draw.choice(self.office.roles)

    def deed(self):
        state, deeds = self.plain.log.state_now(), all_deeds(self.office)
        let_by = [deed for deed in deeds if self.plain.book.lets(state, deed)]
        if let_by and self.draw.random() < 0.7:
            return self.draw.choice(let_by)
        verb, who = self.draw.choice(["give", "take", "lay"]), self.who()
        return (verb, who, self.role(), who if verb == "lay" else self.who())

    def wish(self):
        parts = [f"{self.who()} {self.draw.choice(['has', 'has', 'not'])} {self.role()}" for _ in range(self.draw.choice([1, 1, 2, 3]))]
        return " and ".join(parts) + self.draw.choice([""] * 20 + [" and", " x"])

    def bans(self, wish):
        kind, thing = "row", []
        try:
            kind, thing = answer(*self.plain.now(), wish_of(wish).ways(self.office))
        except OfficeError:
            pass
        bans = list(thing) if kind == "never" else []
        if self.draw.random() < 0.3:
            bans.append((self.draw.randrange(5000), self.draw.choice([0, 0, self.draw.randrange(20)])))
        return bans

    def text(self):
        rows = text_of(self.plain.book).split("\n")
        rules = len(self.plain.book.rules)
        change = self.draw.choice(["order", "less", "more", "bar", "other", "pair"])
        if change in ("less", "other") and rules:
            rows.pop(-self.draw.randint(1, rules))
        if change in ("more", "other"):
            rows.append(drawn_letting(self.draw, self.office.roles))
        if change == "bar":
            rows.append(drawn_bar(self.draw, self.office.roles))
        if change == "order":
            rows[2:] = rows[2:-rules or None] + self.draw.sample(rows[len(rows) - rules:], rules)
        if change == "pair":
            rows.insert(2, "above " + " ".join(self.draw.choices(self.office.roles, k=2)))
        return "\n".join(rows)

    def question(self):
        draw = self.draw
        name = draw.choice(["do"] * 6 + """lacks rights has since chain without then rules might might lose check check lasting
            neverhad mend mend mend beside beside trust start""".split())
        if name in ("do", "lacks"):
            return name, self.deed()
        if name in ("has", "since", "chain", "lose"):
            return name, self.who(), self.role()
        if name in ("without", "then"):
            return name, draw.randint(0, len(self.plain.log.deeds_done()) + 1)
        if name in ("might", "check"):
            wish = self.wish()
            return (name, wish) if name == "might" else (name, self.bans(wish), wish)
        if name == "mend":
            return (name, *[self.wish() for _ in range(draw.choice([1, 1, 2, 3]))])
        if name == "beside":
            return name, self.text()
        if name in ("trust", "start"):
            return (name, *[self.who() if name == "trust" else (self.who(), self.role()) for _ in range(draw.choice([0, 1, 1, 3]))])
        return (name,)


class TestMade(RefusalCase):
    def test_refused_as_the_text_is(self):
        for thing in odd_things() + ["", "folk ann", TEXT + "\n", TEXT + "\ngive"]:
            with self.assertRaises(NoBook) as caught:
                Desk(thing)
            with self.assertRaises(NoBook) as plainly:
                book_of(thing)
            self.assertEqual(caught.exception.line, plainly.exception.line)
        self.refused(NoBook, 7, Desk, TEXT + "\nlay")
        self.refused(Doubled, "ann", Desk, "folk ann bob ann\nroles boss")
        self.refused(TooMany, 5, Desk, "folk a b c d e\nroles x")
        self.refused(Ring, "x", Desk, "folk a\nroles x y\nabove x x")
        self.refused(NoRole, "z", Desk, "folk a\nroles x y\nlay z")

    def test_the_start_and_the_trusted_of_a_desk_as_it_is_made(self):
        desk = Desk(TEXT)
        self.assertEqual(desk.say("rights"), "ok")
        self.assertEqual(desk.say("since ann boss"), "ok none")
        self.assertEqual(desk.say("neverhad"), "ok ann boss; ann clerk; bob boss; bob clerk")
        self.assertEqual(desk.say("without 1"), "no NoNumber 1")
        lay = Desk("folk ann bob\nroles x\nlay x")
        self.assertEqual(lay.say("start ann x bob x"), "ok")
        self.assertEqual((lay.say("lose ann x"), lay.say("lose bob x")), ("ok by lay ann x", "ok by lay bob x"))

    def test_two_desks_have_nothing_in_common(self):
        one, other = Desk(TEXT), Desk(TEXT)
        one.say("start ann boss")
        one.say("trust ann")
        one.say("give ann clerk bob")
        self.assertEqual(other.say("rights"), "ok")
        self.assertEqual(other.say("start ann boss"), "ok")
        self.assertEqual(other.say("might bob has clerk"), "ok by give ann clerk bob")
        self.assertEqual(one.say("rights"), "ok ann boss; bob clerk")


class DeskCase(unittest.TestCase):
    def says(self, desk, *pairs):
        for request, expected in pairs:
            self.assertEqual(desk.say(request), expected, request)


class TestLog(DeskCase):
    def test_deeds_and_rights(self):
        self.says(Desk(TEXT), ("start ann boss", "ok"), ("rights", "ok ann boss"), ("give ann clerk bob", "ok 1"),
                  ("give ann boss bob", "ok 2"), ("take bob boss ann", "ok 3"), ("rights", "ok bob boss; bob clerk"),
                  ("has ann clerk", "ok no"), ("has bob clerk", "ok yes"), ("has bob boss", "ok yes"), ("has ann boss", "ok no"))

    def test_has_asks_what_is_had(self):
        self.says(Desk(TEXT), ("start ann boss", "ok"), ("has ann clerk", "ok yes"), ("since ann clerk", "ok none"),
                  ("chain ann clerk", "ok none"))

    def test_since_and_chain(self):
        desk = Desk(TEXT)
        self.says(desk, ("start ann boss", "ok"), ("since ann boss", "ok 0"), ("chain ann boss", "ok"), ("since bob boss", "ok none"),
                  ("chain bob boss", "ok none"), ("give ann clerk bob", "ok 1"), ("give ann boss bob", "ok 2"),
                  ("since bob boss", "ok 2"), ("chain bob boss", "ok 2"), ("give bob clerk ann", "ok 3"),
                  ("chain ann clerk", "ok 3; 2"), ("since ann clerk", "ok 3"), ("since ann boss", "ok 0"))

    def test_a_role_that_is_laid_down(self):
        desk = Desk("folk ann bob\nroles x y\nlay x if has y\nlast y\nlay y")
        self.says(desk, ("start ann x bob y", "ok"), ("lay ann x", "no Lacks 1 ann has y"), ("lacks lay ann x", "ok 1 ann has y"),
                  ("start ann x ann y", "ok"), ("lacks lay ann x", "ok"), ("lay ann x", "ok 1"), ("lay ann y", "no Lacks 2 ann last y"))

    def test_what_a_deed_lacks(self):
        desk = Desk("folk ann bob\nroles x y\ngive x by x\ngive x by y to not x\nmost 1 x")
        self.says(desk, ("lacks give ann x bob", "ok 1 ann has x; 2 ann has y"), ("give ann x bob", "no Lacks 1 ann has x; 2 ann has y"),
                  ("start ann y ann x", "ok"), ("lacks give ann x bob", "ok 3 bob most 1 x"), ("start ann y", "ok"),
                  ("lacks give ann x bob", "ok"), ("give ann x bob", "ok 1"), ("lacks give ann x bob", "ok 0 bob held"),
                  ("lacks take ann x ann", "ok 0 ann not held"), ("lacks take ann x bob", "ok 0 ann no rule"))

    def test_thought_away(self):
        desk = Desk(TEXT)
        self.says(desk, ("start ann boss", "ok"), ("give ann clerk bob", "ok 1"), ("give ann boss bob", "ok 2"),
                  ("take bob boss ann", "ok 3"), ("without 1", "ok 2; 3"), ("then 1", "ok ann boss"), ("without 2", "ok 3"),
                  ("then 2", "ok ann boss; bob clerk"), ("without 3", "ok"), ("then 3", "ok ann boss; bob boss; bob clerk"),
                  ("rights", "ok bob boss; bob clerk"), ("without 0", "no NoNumber 0"), ("then 4", "no NoNumber 4"))

    def test_nothing_left_behind_a_deed_thought_away(self):
        desk = Desk("folk ann\nroles x\nlay x")
        self.says(desk, ("start ann x", "ok"), ("lay ann x", "ok 1"), ("rights", "ok"), ("then 1", "ok ann x"), ("without 1", "ok"))

    def test_start_anew(self):
        desk = Desk(TEXT)
        self.says(desk, ("start ann boss ann boss bob clerk", "ok"), ("rights", "ok ann boss; bob clerk"), ("give ann boss bob", "ok 1"),
                  ("trust bob", "ok"), ("start bob boss", "ok"), ("without 1", "no NoNumber 1"), ("rights", "ok bob boss"),
                  ("since bob boss", "ok 0"), ("might ann has boss", "ok never 1/0"), ("start", "ok"), ("rights", "ok"),
                  ("trust", "ok"), ("start bob boss", "ok"), ("give bob clerk ann", "ok 1"),
                  ("might ann has boss", "ok by give bob boss ann"))

    def test_trusted_folk_do_deeds_in_the_log(self):
        self.says(Desk(TEXT), ("start ann boss", "ok"), ("trust ann bob", "ok"), ("give ann clerk bob", "ok 1"),
                  ("lacks give ann boss bob", "ok"))

    def test_just_these_are_trusted(self):
        desk = Desk(TEXT)
        self.says(desk, ("start ann boss bob boss", "ok"), ("trust ann ann", "ok"), ("lose ann boss", "ok by take bob boss ann"),
                  ("trust bob", "ok"), ("lose ann boss", "ok by take ann boss ann"), ("trust bob ann", "ok"),
                  ("lose ann boss", "ok never 0/1"), ("trust bob", "ok"), ("trust", "ok"), ("mend ann not boss", "ok 3"))

    def test_rules(self):
        self.says(Desk(TEXT), ("rules", "ok\n" + TEXT), ("start ann boss", "ok"), ("rules", "ok\n" + TEXT))
        self.says(Desk("folk a\nroles a"), ("rules", "ok\nfolk a\nroles a"))


class TestWhatMightCome(DeskCase):
    def test_might(self):
        desk = Desk(TEXT)
        self.says(desk, ("start ann boss", "ok"), ("might ann has boss", "ok by"), ("might bob has clerk", "ok by give ann clerk bob"),
                  ("might bob has boss", "ok by give ann clerk bob; give ann boss bob"), ("trust ann bob", "ok"),
                  ("might bob has boss", "ok never 4/0"), ("might ann has boss and ann not boss", "ok never"),
                  ("might ann has boss and bob not clerk and bob not boss", "ok by"))

    def test_lose(self):
        desk = Desk("folk ann bob\nroles x y\nlay x\ntake y by x")
        self.says(desk, ("start ann x ann y", "ok"), ("lose ann x", "ok by lay ann x"), ("lose ann y", "ok by take ann y ann"),
                  ("lose bob x", "ok by"), ("trust ann", "ok"), ("lose ann x", "ok never 0/1"), ("start bob x bob y ann y", "ok"),
                  ("lose bob y", "ok by take bob y bob"))

    def test_check(self):
        desk = Desk(TEXT)
        self.says(desk, ("check for ann has boss and ann not boss", "ok yes"), ("check for ann has boss", "ok no"),
                  ("check 1/0 for ann has boss", "ok no"), ("check 1/0 4/0 for ann has boss", "ok yes"),
                  ("check 4/0 1/0 for ann has boss", "ok yes"), ("trust bob", "ok"), ("check 1/0 for ann has boss", "ok yes"),
                  ("start ann boss", "ok"), ("check 1/0 for ann has boss", "ok no"), ("check 0/0 for ann has boss", "ok no"))

    def test_bans_of_numbers_that_are_no_states_of_the_office(self):
        desk = Desk(TEXT)
        self.says(desk, ("check 15/15 1/0 4/0 for ann has boss", "ok yes"), ("check 16/0 1/0 4/0 for ann has boss", "ok no"),
                  ("check 1/0 4/0 0/16 for ann has boss", "ok no"), ("check 999999999/0 for ann has boss and ann not boss", "ok no"),
                  ("check 3/999999999 for ann has boss and ann not boss", "ok no"),
                  ("check 3/12 for ann has boss and ann not boss", "ok no"),
                  ("check 3/3 for ann has boss and ann not boss", "ok yes"))

    def test_what_might_tells_is_let_by(self):
        desk = Desk(TEXT)
        for start in ("start", "start bob clerk", "start ann clerk bob clerk"):
            for wish in ("ann has boss", "bob has boss and ann not clerk", "ann has boss and bob has boss and ann has clerk"):
                desk.say(start)
                found = desk.say("might " + wish)
                self.assertTrue(found.startswith("ok never "), found)
                bans = found[len("ok never "):].split("; ")
                self.assertEqual(desk.say(" ".join(["check"] + bans + ["for", wish])), "ok yes")
                self.assertEqual(desk.say(" ".join(["check"] + bans[1:] + ["for", wish])), "ok no")

    def test_lasting_and_never_had(self):
        desk = Desk(TEXT)
        self.says(desk, ("start ann boss bob clerk", "ok"), ("lasting", "ok bob clerk"), ("neverhad", "ok"), ("trust ann", "ok"),
                  ("lasting", "ok ann boss; bob clerk"), ("neverhad", "ok bob boss"), ("start", "ok"), ("lasting", "ok"))

    def test_mend(self):
        desk = Desk("folk ann\nroles a b c d\nlast a\ngive b by a\ngive d by b\ngive c by a\ngive d by c")
        self.says(desk, ("mend ann has d", "ok"), ("start ann a", "ok"), ("mend ann has b", "ok 2"), ("mend ann has a", "ok none"),
                  ("mend ann has d / ann has b / ann has c", "ok 3; 5"), ("mend ann has b / ann has b", "ok none"),
                  ("mend ann has d / ann has d", "ok none"), ("mend ann has b and ann has c / ann has b", "ok 4"),
                  ("mend ann has b and ann has c and ann has d / ann has b and ann has d", "ok 4"),
                  ("trust ann", "ok"), ("mend ann has d", "ok"), ("mend ann has d / ann has d", "ok"))

    def test_nothing_is_told_where_nothing_need_be_struck(self):
        self.says(Desk(TEXT), ("mend ann has boss", "ok"), ("mend ann has boss / ann not boss", "ok"), ("mend ann not boss", "ok none"))


class TestBeside(DeskCase):
    def test_alike_and_apart(self):
        desk = Desk("folk ann bob\nroles boss clerk\nlay clerk\ngive boss by boss")
        lays = "folk ann bob\nroles boss clerk\ngive boss by boss"
        more = "folk ann bob\nroles boss clerk\nlay clerk\ngive boss by boss\nlay clerk if has boss\ngive clerk by boss"
        self.says(desk, ("beside\n" + lays, "ok alike"), ("beside\n" + more, "ok alike"), ("start ann boss bob clerk", "ok"),
                  ("trust ann", "ok"), ("beside\n" + lays, "ok apart 1 lay bob clerk"), ("trust ann bob", "ok"),
                  ("beside\n" + lays, "ok alike"), ("trust bob", "ok"), ("start ann boss", "ok"),
                  ("beside\nfolk ann bob\nroles boss clerk\ngive boss by boss\nlay clerk", "ok alike"))

    def test_behind_a_row(self):
        desk = Desk("folk ann bob\nroles a b c\ngive b by a to has a\ngive c by b to has b")
        self.says(desk, ("start ann a bob a", "ok"), ("trust bob", "ok"),
                  ("beside\nfolk ann bob\nroles a b c\ngive b by a to has a", "ok apart 1 give ann b ann; give ann c ann"))
        desk = Desk("folk ann\nroles a b c\ngive b by a")
        other = "folk ann\nroles a b c\ngive b by a\ngive c by b"
        self.says(desk, ("start ann a", "ok"), ("beside\n" + other, "ok apart 2 give ann b ann; give ann c ann"),
                  ("give ann b ann", "ok 1"), ("beside\n" + other, "ok apart 2 give ann c ann"))

    def test_a_book_beside_itself(self):
        desk = Desk(TEXT)
        desk.say("start ann boss")
        self.says(desk, ("beside\n" + TEXT, "ok alike"), ("beside\n" + desk.say("rules")[len("ok\n"):], "ok alike"))


class TestNames(DeskCase):
    def test_names_called_like_words_of_requests(self):
        text = "folk start for give\nroles has rules not and\nabove has not\ngive not by has\nlay not if has has and not and"
        self.says(Desk(text), ("start start has for and", "ok"), ("rights", "ok start has; for and"), ("has start not", "ok yes"),
                  ("has for has", "ok no"), ("since start has", "ok 0"), ("give start not give", "ok 1"), ("chain give not", "ok 1"),
                  ("lacks give for not for", "ok 1 for has has"), ("might for has not", "ok by give start not for"),
                  ("trust start for", "ok"), ("trust give start", "ok"),
                  ("lose give not", "ok never 0/1024"), ("check 0/1024 for give not not", "ok yes"),
                  ("check for for has not", "ok no"), ("check 0/0 for for not for", "no NoRole for"), ("rules", "ok\n" + text))

    def test_folk_and_a_role_called_alike(self):
        desk = Desk("folk mend trust\nroles mend trust\ngive mend by trust\nlay trust")
        self.says(desk, ("start mend trust trust trust", "ok"), ("trust trust", "ok"), ("give mend mend trust", "ok 1"),
                  ("mend trust has mend", "ok none"), ("mend mend has mend", "ok 1"), ("lay mend trust", "ok 2"),
                  ("rights", "ok trust mend; trust trust"), ("has trust trust", "ok yes"))


class TestSessions(unittest.TestCase):
    def test_drawn_sessions_held_against_a_book_a_log_and_trusted_folk(self):
        counts = {}
        draw = random.Random(93)
        for _ in range(120):
            book = draw.choice([drawn_book, drawn_giving_book])(draw, *draw.choice([(1, 2), (2, 2), (3, 2), (2, 3), (2, 4)]))
            desk, plain = Desk(text_of(book)), PlainDesk(text_of(book))
            drawing = Drawing(draw, plain)
            for turn in range(40):
                question = drawing.question() if turn else ("start", *draw.sample([
                    (who, role) for who in book.office.folk for role in book.office.roles], k=draw.choice([1, 2])))
                request, expected = request_of(*question), plain.ask(*question)
                self.assertEqual(desk.say(request), expected, request)
                if question[0] not in ("do", "start", "trust"):
                    self.assertEqual(desk.say(request), expected, request)
                key = (question[0], " ".join(expected.split()[:2]) if question[0] != "do" else expected.split()[0])
                counts[key] = counts.get(key, 0) + 1
        for key in [("do", "ok"), ("do", "no"), ("might", "ok by"), ("might", "ok never"), ("lose", "ok by"), ("lose", "ok never"),
                    ("check", "ok yes"), ("check", "ok no"), ("mend", "ok none"), ("mend", "no NoWant"), ("mend", "ok"),
                    ("beside", "ok alike"), ("beside", "ok apart"), ("beside", "no Ring"), ("has", "ok yes"), ("has", "ok no"),
                    ("since", "ok none"), ("chain", "ok none"), ("chain", "ok"), ("without", "ok"), ("without", "no NoNumber"),
                    ("lacks", "ok"), ("lacks", "ok 0"), ("might", "no NoWish"), ("might", "no NoFolk"), ("might", "no NoRole")]:
            self.assertGreater(counts.get(key, 0), 4, (key, counts))

    def test_what_is_told_to_be_by_deeds_is_done_so(self):
        done = 0
        draw = random.Random(96)
        for _ in range(150):
            book = drawn_giving_book(draw, *draw.choice([(2, 2), (3, 2), (2, 3)]))
            desk = Desk(text_of(book))
            desk.say(f"start {draw.choice(book.office.folk)} {draw.choice(book.office.roles)}")
            wish = f"{draw.choice(book.office.folk)} {draw.choice(['has', 'not'])} {draw.choice(book.office.roles)}"
            found = desk.say("might " + wish)
            if found.startswith("ok by "):
                for number, deed in enumerate(found[len("ok by "):].split("; "), start=1):
                    self.assertEqual(desk.say(deed), f"ok {number}")
                self.assertEqual(desk.say("might " + wish), "ok by")
                done += 1
        self.assertGreater(done, 20)

    def test_nothing_is_come_to_that_is_never_had(self):
        for seed in range(30):
            draw = random.Random(seed)
            book = drawn_giving_book(draw, 2, 2)
            desk = Desk(text_of(book))
            right = (draw.choice(book.office.folk), draw.choice(book.office.roles))
            desk.say("start " + " ".join(right))
            found = plain_arrivals(book, Office.state_of(book.office, [right]), [])
            never = desk.say("neverhad")[len("ok "):].split("; ")
            for who in book.office.folk:
                for role in book.office.roles:
                    goals = wish_of(f"{who} has {role}").ways(book.office)
                    self.assertEqual(f"{who} {role}" in never, not any(is_of_ways(state, goals) for state in found))


class TestRefusalsToldByName(RefusalCase):
    def test_no_folk_is_told_of_trusted_folk_by_the_book_alike(self):
        self.refused(NoFolk, "eve", PlainDesk(TEXT).ask_trust, "ann", "eve", "eva")
        self.assertEqual(Desk(TEXT).say("trust ann eve eva"), "no NoFolk eve")


if __name__ == "__main__":
    unittest.main()
