"""Points 94 and 98, and point 4 of them: what a desk refuses, by which words, in which order, and that it changes nothing."""

import unittest

from mightever.desk import Desk

# Bits: ann boss 1, ann clerk 2, bob boss 4, bob clerk 8.
TEXT = """folk ann bob
roles boss clerk
above boss clerk
give clerk by boss
give boss by boss to has clerk
take boss by boss
last boss"""
HEAD = "folk ann bob\nroles boss clerk\nabove boss clerk"

# All that tells how a desk stands, asked of TEXT's office.
STANDING = ["rights", "lasting", "neverhad", "rules", "might bob has boss", "might ann not boss"]
STANDING += [f"{name} {who} {role}" for name in ("since", "chain", "lose") for who in ("ann", "bob") for role in ("boss", "clerk")]
STANDING += [f"{name} {number}" for name in ("without", "then") for number in range(4)]


def desk_told(*requests):
    desk = Desk(TEXT)
    for request in requests:
        assert desk.say(request).startswith("ok"), request
    return desk


def standing(desk):
    return [desk.say(request) for request in STANDING]


class DeskCase(unittest.TestCase):
    def setUp(self):
        self.desk = desk_told("start ann boss", "trust bob", "give ann clerk bob", "give ann boss bob")
        self.kept = standing(self.desk)

    def refuses(self, expected, *requests):
        for request in requests:
            self.assertEqual(self.desk.say(request), expected, request)
            self.assertEqual(standing(self.desk), self.kept, request)


class TestNoLine(DeskCase):
    def no_line(self, *requests):
        self.refuses("no NoLine", *requests)

    def test_blanks(self):
        for request in ("rights", "has ann boss", "give ann clerk ann", "lacks lay ann boss", "start ann boss", "trust ann",
                        "might ann has boss", "check 1/0 for ann has boss", "mend ann has boss / ann has clerk", "without 1",
                        "rules", "lasting"):
            self.no_line(" " + request, request + " ", "  " + request, request + "  ", " " + request + " ")
            self.no_line(*[request.replace(" ", "  ", 1)] * (" " in request))
            self.no_line(*["  ".join(request.rsplit(" ", 1))] * (" " in request))
        self.no_line("", " ", "  ")

    def test_names_that_are_none(self):
        self.no_line("x", "Rights", "RIGHTS", "right", "rightss", "ok", "no", "put ann boss bob", "held ann boss", "has\tann boss",
                     "neverhad?", "never had", "does ann boss", "for ann has boss", "by", "/", "0", "1/0", "ann has boss", "give\n",
                     "rights\n", "\nrights", "rules\n", "losing ann boss", "thens 1", "whatever 1", "x 1", "x ann boss", "x 1 2 3")

    def test_words_that_stand_alone(self):
        for name in ("rights", "rules", "lasting", "neverhad"):
            self.no_line(name + " ann", name + " 1", name + " ann boss", name + " " + name, name + " ann boss bob")

    def test_rights_asked_for(self):
        for name in ("has", "since", "chain", "lose"):
            self.no_line(name, name + " ann", name + " ann boss bob", name + " ann boss bob clerk", name + " ann has boss")
            # Names that aren't there change nothing of it.
            self.no_line(name + " eve", name + " eve none none")

    def test_numbers_of_words_behind_deeds(self):
        for verb in ("give", "take"):
            for ahead in ("", "lacks "):
                self.no_line(ahead + verb, ahead + verb + " ann", ahead + verb + " ann boss", ahead + verb + " ann boss bob bob")
                self.no_line(ahead + verb + " eve none", ahead + verb + " eve none eve eve")
        for ahead in ("", "lacks "):
            self.no_line(ahead + "lay", ahead + "lay ann", ahead + "lay ann boss ann", ahead + "lay ann boss ann ann", ahead + "lay eve")

    def test_a_deed_whose_verb_is_none(self):
        self.no_line("lacks", "lacks put ann boss bob", "lacks ann boss bob", "lacks ann boss", "lacks lacks give ann boss bob",
                     "lacks gives ann boss bob", "lacks Give ann boss bob", "lacks put ann boss", "lacks rights", "lacks lay lay",
                     "lacks has ann boss", "lacks 1 2 3 4")

    def test_an_odd_number_behind_start(self):
        self.no_line("start ann", "start ann boss bob", "start eve", "start ann boss bob boss ann", "start 1")

    def test_numbers(self):
        for name in ("without", "then"):
            self.no_line(name, name + " 1 2", name + " 1 1", name + " ann boss")
            for number in ("00", "01", "001", "0001", "000000001", "1000000000", "9999999999", "0000000000", "+1", "-1", "-0", "--1",
                           "one", "x", "1x", "x1", "1.", "1.0", "1,0", "1/0", "/", "#", "0x1", "1_0", "1e1", "\u0661", "\u00b2",
                           "1\n", "\n1", "12345678901234567890"):
                self.no_line(name + " " + number)

    def test_might_without_a_wish(self):
        self.no_line("might")

    def test_check(self):
        self.no_line("check", "check for", "check 1/0", "check 1/0 for", "check 1/0 4/0 for", "check ann has boss",
                     "check 1/0 ann has boss", "check 1/0 ann has boss for", "check For ann has boss", "check 1/0 fo ann has boss",
                     "check 1/0 ann for ann has boss", "check ann 1/0 for ann has boss", "check / for ann has boss")

    def test_bans(self):
        for ban in ("1", "1/", "/1", "/", "//", "1//0", "1/0/0", "1/0/", "/1/0", "01/0", "1/00", "1/01", "-1/0", "1/-1", "+1/0", "a/b",
                    "1/x", "x/1", "1000000000/0", "0/1000000000", "1.0/0", "1|0", "(1,0)", "1,0", "1;0", "bans", "1/0;", "\u0661/0"):
            self.no_line(f"check {ban} for ann has boss", f"check 1/0 {ban} for ann has boss", f"check {ban} 1/0 for ann has boss",
                         f"check {ban} for", f"check {ban} for eve sits")

    def test_mend(self):
        self.no_line("mend", "mend /", "mend / ann has boss", "mend ann has boss /", "mend ann has boss / /", "mend / /",
                     "mend ann has boss / / ann has boss", "mend ann has boss / ann has clerk /", "mend / ann has boss / ann has boss",
                     "mend ann has boss / ann has boss / ann has boss / ann has boss", "mend ann has boss / ann has clerk / /",
                     "mend eve / eve / eve / eve", "mend ann has boss / eve /")

    def test_beside(self):
        self.no_line("beside", "beside ", "beside x", "beside " + TEXT, "beside folk ann bob", "beside \n" + TEXT, " beside\n" + TEXT,
                     "Beside\n" + TEXT, "besides\n" + TEXT, "beside x\n" + TEXT, "\nbeside\n" + TEXT)


class TestOtherRefusals(DeskCase):
    def test_no_folk_and_no_role(self):
        for name in ("has", "since", "chain", "lose"):
            self.refuses("no NoFolk eve", name + " eve boss", name + " eve none", name + " eve eve")
            self.refuses("no NoRole none", name + " ann none", name + " bob none")
            self.refuses("no NoRole ann", name + " ann ann")
            self.refuses("no NoFolk boss", name + " boss ann")
            self.refuses("no NoFolk Ann!", name + " Ann! boss")
            self.refuses("no NoFolk 12", name + " 12 boss")

    def test_of_deeds(self):
        for ahead in ("", "lacks "):
            self.refuses("no NoFolk eve", ahead + "give eve boss bob", ahead + "give eve none eva", ahead + "take ann boss eve",
                         ahead + "lay eve none", ahead + "lay eve boss")
            self.refuses("no NoRole none", ahead + "give ann none bob", ahead + "give ann none eve", ahead + "lay ann none")
        self.refuses("no Lacks 0 bob held", "give ann clerk bob", "give bob clerk bob", "give ann boss bob")
        self.refuses("no Lacks 0 ann not held", "take ann clerk ann", "lay ann clerk")
        self.refuses("no Lacks 0 ann no rule", "lay ann boss")

    def test_of_lacks_what_is_lacking(self):
        desk = Desk("folk ann bob\nroles x y\nmost 1 x\ngive x by x to not y\nlast y\ngive x by y\ntake y by y")
        self.assertEqual(desk.say("give ann x bob"), "no Lacks 2 ann has x; 4 ann has y")
        desk.say("start ann x bob y")
        self.assertEqual(desk.say("give ann x bob"), "no Lacks 2 bob not y; 4 ann has y")
        self.assertEqual(desk.say("give bob x bob"), "no Lacks 1 bob most 1 x")
        self.assertEqual(desk.say("take bob y bob"), "no Lacks 3 bob last y")
        self.assertEqual(desk.say("rights"), "ok ann x; bob y")

    def test_start(self):
        self.refuses("no NoFolk eve", "start eve boss", "start eve none", "start ann boss eve clerk bob none", "start eve none ann boss")
        self.refuses("no NoRole none", "start ann none", "start ann boss bob none eve boss", "start ann none eve none")

    def test_trust(self):
        self.refuses("no NoFolk eve", "trust eve", "trust ann eve", "trust ann bob eve eva", "trust eve ann")
        self.refuses("no NoFolk boss", "trust boss")

    def test_numbers_that_no_deed_has(self):
        for name in ("without", "then"):
            for number in ("0", "3", "10", "999999999"):
                self.refuses("no NoNumber " + number, f"{name} {number}")

    def test_no_wish(self):
        for wish in ("ann", "ann has", "has boss", "ann has boss and", "ann sits boss", "ann has boss or bob has boss", "and", "for",
                     "ann has boss and bob has boss and ann has clerk and bob has clerk", "ann has boss bob has clerk", "Ann has boss",
                     "ann has toolong", "eve sits none", "ann has boss for bob has boss", "1/0", "1/0 for ann has boss"):
            self.refuses("no NoWish " + wish, "might " + wish, "check for " + wish, "check 1/0 for " + wish, "check 999999999/0 for " + wish)
            self.refuses("no NoWish " + wish, "mend " + wish, "mend ann has boss / " + wish, f"mend {wish} / ann has boss / bob",
                         f"mend ann has boss / {wish} / eve", "mend eve has boss / ann has none / " + wish)
        self.refuses("no NoWish ann has boss / bob has boss", "might ann has boss / bob has boss", "check for ann has boss / bob has boss")

    def test_wishes_of_what_is_not_there(self):
        for wish, expected in (("eve has boss", "no NoFolk eve"), ("eve has none", "no NoFolk eve"), ("ann not none", "no NoRole none"),
                               ("ann has none and eve has boss", "no NoRole none"), ("ann has boss and eve has none", "no NoFolk eve"),
                               ("ann has boss and ann not boss and eve not boss", "no NoFolk eve")):
            self.refuses(expected, "might " + wish, "check for " + wish, "check 1/0 for " + wish, "check 999999999/0 for " + wish,
                         "mend " + wish, "mend ann has boss / " + wish, f"mend ann has boss / bob has boss / {wish}",
                         f"mend {wish} / eva has boss / ann has nil", f"mend bob not boss / {wish} / eva has boss")

    def test_wishes_are_read_ahead_of_their_ways(self):
        self.refuses("no NoWish x", "mend eve has boss / x", "mend eve has boss / ann has none / x", "mend x / eve has boss", "mend x / y")
        self.refuses("no NoFolk eve", "mend eve has boss / ann has none", "mend ann has boss / eve has boss / ann has none")

    def test_no_want(self):
        desk = Desk("folk ann bob\nroles x y\ngive y by x")
        for start in ("start", "start ann x"):
            desk.say(start)
            self.assertEqual(desk.say("mend ann has y / bob has x"), "no NoWant 1")
            self.assertEqual(desk.say("mend ann has y / bob has x / bob has x"), "no NoWant 1")
            self.assertEqual(desk.say("mend ann has y / ann not y / bob has x"), "no NoWant 2")
            self.assertEqual(desk.say("mend ann has y / ann has y and ann not y"), "no NoWant 1")
            self.assertEqual(desk.say("mend ann has y / bob has x / eve has x"), "no NoFolk eve")
        desk.say("trust ann")
        self.assertEqual(desk.say("mend ann has y / ann has y"), "ok")
        self.assertEqual(desk.say("mend ann has y / bob has x"), "no NoWant 1")

    def test_another_book_that_cannot_be_read(self):
        for text, line in (("", 0), ("folk", 0), ("folk ann bob", 1), ("roles boss", 0), ("folk ann bob\nroles", 1), (HEAD + "\n", 3),
                           (HEAD + "\ngive boss", 3), (TEXT + "\n", 7), (TEXT + "\nabove boss clerk", 7), ("x" * 50, 0), ("\n" + TEXT, 0),
                           ("folk ann  bob\nroles boss clerk", 0), (HEAD + "\nlast boss ", 3), ("folk ann Bob\nroles x", 0)):
            self.refuses(f"no NoBook {line}", "beside\n" + text)

    def test_another_book_that_is_refused(self):
        self.refuses("no TooMany 5", "beside\nfolk a b c d e\nroles x")
        self.refuses("no TooMany 16", "beside\nfolk a b c d\nroles x y z u")
        self.refuses("no TooMany 9", "beside\n" + HEAD + "\nlay boss" * 9)
        self.refuses("no TooMany 5", "beside\n" + HEAD + "\nlast boss" * 5)
        self.refuses("no Doubled ann", "beside\nfolk ann bob ann\nroles x")
        self.refuses("no Doubled boss", "beside\n" + HEAD + "\nabove boss clerk")
        self.refuses("no Ring clerk", "beside\n" + HEAD + "\nabove clerk boss")
        self.refuses("no NoRole none", "beside\n" + HEAD + "\nabove boss none", "beside\n" + HEAD + "\nlay none")

    def test_another_book_that_is_not_alike(self):
        self.refuses("no Unlike", "beside\nfolk bob ann\nroles boss clerk\nabove boss clerk", "beside\nfolk ann bob\nroles boss clerk",
                     "beside\nfolk ann\nroles boss clerk\nabove boss clerk", "beside\nfolk ann bob\nroles clerk boss\nabove boss clerk",
                     "beside\nfolk ann bob\nroles boss clerk chief\nabove boss clerk", "beside\nfolk ann eve\nroles boss clerk\nabove boss clerk")


class TestNothingIsChanged(DeskCase):
    def test_by_questions(self):
        for request in STANDING + ["beside\n" + TEXT, "mend bob has boss", "check 1/0 for ann has boss", "has ann boss",
                                   "lacks take bob boss ann"]:
            told = self.desk.say(request)
            self.assertEqual(self.desk.say(request), told)
            self.assertEqual(standing(self.desk), self.kept)

    def test_the_same_again_at_a_desk_told_the_same(self):
        other = desk_told("rights", "trust ann", "start ann boss", "mend bob has boss", "trust bob", "give ann clerk bob",
                          "might bob has boss", "give ann boss bob")
        self.assertEqual(standing(other), self.kept)

    def test_a_refused_deed_has_no_number(self):
        self.assertEqual(self.desk.say("give ann clerk bob"), "no Lacks 0 bob held")
        self.assertEqual(self.desk.say("give eve clerk bob"), "no NoFolk eve")
        self.assertEqual(self.desk.say("give ann clerk"), "no NoLine")
        self.assertEqual(self.desk.say("take bob boss ann"), "ok 3")


if __name__ == "__main__":
    unittest.main()
