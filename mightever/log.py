"""The log: deeds done one behind the other, since when rights are held, and what one deed thought away would change."""

from mightever.errors import NoNumber
from mightever.words import is_whole


class Log:
    def __init__(self, book, start):
        book.office.must_be_state(start)
        self.book = book
        self.start = start
        self.numbered = []
        # The state behind so many deeds stands at that place, so there is one more of them than of deeds.
        self.behind = [start]

    def do(self, deed):
        self.behind.append(self.book.done(self.state_now(), deed))
        self.numbered.append(deed)
        return len(self.numbered)

    def deeds_done(self):
        return list(self.numbered)

    def state_now(self):
        return self.behind[-1]

    def must_be_number(self, thing, least):
        if not is_whole(thing) or thing < least or thing > len(self.numbered):
            raise NoNumber(thing)

    def state_at(self, number):
        self.must_be_number(number, 0)
        return self.behind[number]

    def held_since(self, bit, number):
        # How many deeds behind the start the bit came to be held, which is held behind this number of them.
        while number > 0 and (self.behind[number - 1] & bit) != 0:
            number = number - 1
        return number

    def since(self, who, role):
        bit = self.book.office.bit(who, role)
        if (self.state_now() & bit) == 0:
            return None
        return self.held_since(bit, len(self.numbered))

    def giver_bit(self, number):
        # The giver's first right that brings the role by which the deed of this number was let by.
        office = self.book.office
        state = self.behind[number - 1]
        deed = self.numbered[number - 1]
        rule = self.book.rules[self.book.rule_for(state, deed) - 1]
        bits = [office.bit(deed[1], upper) for upper in office.bringing(rule.by)]
        return [bit for bit in bits if (state & bit) != 0][0]

    def chain(self, who, role):
        number = self.since(who, role)
        if number is None:
            return None
        numbers = []
        while number > 0:
            numbers.append(number)
            number = self.held_since(self.giver_bit(number), number - 1)
        return numbers

    def without_deed(self, number):
        self.must_be_number(number, 1)
        state = self.behind[number - 1]
        fallen = []
        for later in range(number + 1, len(self.numbered) + 1):
            deed = self.numbered[later - 1]
            lacks = self.book.missing(state, deed)
            if len(lacks) == 0:
                state = self.book.done(state, deed)
            else:
                fallen.append((later, lacks))
        return (state, fallen)

    def copied(self):
        other = Log(self.book, self.start)
        other.numbered = list(self.numbered)
        other.behind = list(self.behind)
        return other
