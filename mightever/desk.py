"""The desk: a book, a log of it and trusted folk, which are told and asked by texts."""

from mightever.answers import number_or_none, words_of_answer, words_of_apart, words_of_lacks, words_of_numbers
from mightever.answers import words_of_refusal, words_of_rights, yes_or_no
from mightever.beside import apart
from mightever.booktext import book_of, text_of
from mightever.errors import NoLine, OfficeError
from mightever.lines import bans_and_wish_of, deed_of, number_of, rights_of, wishes_of
from mightever.log import Log
from mightever.papers import answer, is_paper
from mightever.rows import wish_of
from mightever.staying import lasting, loss, never_had
from mightever.striking import strike

BESIDE = "beside\n"


class Desk:
    def __init__(self, text):
        self.book = book_of(text)
        self.log = Log(self.book, 0)
        self.trusted = []

    def say(self, request):
        try:
            return self.answered(request)
        except NoLine:
            return "no NoLine"
        except OfficeError as refusal:
            return "no " + words_of_refusal(refusal)

    def answered(self, request):
        if request == "rules":
            return "ok\n" + text_of(self.book)
        # The text of a book has blanks of its own, which are its own affair.
        if request.startswith(BESIDE):
            told = self.told_beside(request[len(BESIDE):])
        else:
            told = self.told_of_words(request.split(" "))
        if told is None:
            raise NoLine(request)
        return "ok " + told if told != "" else "ok"

    def told_of_words(self, words):
        # Two blanks side by side, or one at an end, leave an empty word; and where the words have no form None is told.
        if "" in words:
            return None
        name = words[0]
        behind = words[1:]
        if name == "start":
            return self.begun_anew(behind)
        if name == "trust":
            return self.trusting(behind)
        if name == "lacks":
            return self.told_lacks(deed_of(behind))
        if name == "might":
            return self.told_might(behind)
        if name == "check":
            return self.told_check(behind)
        if name == "mend":
            return self.told_mend(behind)
        if len(behind) == 0:
            return self.told_now(name)
        if name == "without" or name == "then":
            return self.told_without(name, number_of(behind[0]) if len(behind) == 1 else None)
        deed = deed_of(words)
        if deed is not None:
            return str(self.log.do(deed))
        return self.told_right(name, behind[0], behind[1]) if len(behind) == 2 else None

    def begun_anew(self, words):
        rights = rights_of(words)
        if rights is None:
            return None
        self.log = Log(self.book, self.book.office.state_of(rights))
        return ""

    def trusting(self, names):
        for name in names:
            self.book.office.must_be_folk(name)
        self.trusted = names
        return ""

    def told_lacks(self, deed):
        return None if deed is None else words_of_lacks(self.book.missing(self.log.state_now(), deed))

    def told_now(self, name):
        state = self.log.state_now()
        if name == "rights":
            return words_of_rights(self.book.office.rights(state))
        if name == "lasting":
            return words_of_rights(lasting(self.book, state, self.trusted))
        if name == "neverhad":
            return words_of_rights(never_had(self.book, state, self.trusted))
        return None

    def told_without(self, name, number):
        if number is None:
            return None
        told = self.log.without_deed(number)
        if name == "then":
            return words_of_rights(self.book.office.rights(told[0]))
        return words_of_numbers([later for later, lacks in told[1]])

    def told_right(self, name, who, role):
        state = self.log.state_now()
        if name == "has":
            return yes_or_no(self.book.office.has(state, who, role))
        if name == "since":
            return number_or_none(self.log.since(who, role))
        if name == "chain":
            return words_of_numbers(self.log.chain(who, role))
        if name == "lose":
            return words_of_answer(loss(self.book, state, self.trusted, who, role))
        return None

    def told_might(self, words):
        if len(words) == 0:
            return None
        goals = wish_of(" ".join(words)).ways(self.book.office)
        return words_of_answer(answer(self.book, self.log.state_now(), self.trusted, goals))

    def told_check(self, words):
        found = bans_and_wish_of(words)
        if found is None:
            return None
        bans = found[0]
        goals = wish_of(found[1]).ways(self.book.office)
        if not all([self.book.office.is_state(held) and self.book.office.is_state(free) for held, free in bans]):
            return "no"
        return yes_or_no(is_paper(self.book, self.log.state_now(), self.trusted, goals, bans))

    def told_mend(self, words):
        rows = wishes_of(words)
        if rows is None:
            return None
        # All of them are read ahead of the first one's ways.
        wishes = [wish_of(row) for row in rows]
        goals = [wish.ways(self.book.office) for wish in wishes]
        return words_of_numbers(strike(self.book, self.log.state_now(), self.trusted, goals[0], goals[1:])[0])

    def told_beside(self, text):
        return words_of_apart(apart(self.book, book_of(text), self.log.state_now(), self.trusted))
