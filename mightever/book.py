"""Books of rules: what deeds they let by, and what a deed lacks."""

from mightever.conditions import met_ways
from mightever.errors import Lacks, NoDeed, NoNumber, TooMany
from mightever.words import is_whole

VERBS = ("give", "take", "lay")
MOST_LETTING = 8
MOST_BARS = 4


def is_deed(thing):
    if not isinstance(thing, tuple) or len(thing) != 4:
        return False
    # Only texts are held against others, so that a thing of another kind can't pass for one by its own ==.
    if not all([isinstance(part, str) for part in thing]):
        return False
    return thing[0] in VERBS and (thing[0] != "lay" or thing[1] == thing[3])


def is_deed_of(office, thing):
    return is_deed(thing) and thing[1] in office.folk and thing[2] in office.roles and thing[3] in office.folk


def deeds_of_office(office):
    deeds = []
    for verb in VERBS:
        for who in office.folk:
            # One lays down roles of one's own alone.
            others = (who,) if verb == "lay" else office.folk
            for role in office.roles:
                deeds.extend([(verb, who, role, whom) for whom in others])
    return deeds


def checked_rules(office, rules):
    letting = len([rule for rule in rules if rule.permits()])
    if letting > MOST_LETTING:
        raise TooMany(letting)
    if len(rules) - letting > MOST_BARS:
        raise TooMany(len(rules) - letting)
    for rule in rules:
        for name in rule.names():
            office.must_be_role(name)
    return tuple(rules)


class Book:
    def __init__(self, office, rules):
        self.office = office
        self.rules = checked_rules(office, rules)

    def must_be_deed(self, deed):
        if not is_deed(deed):
            raise NoDeed(deed)
        self.office.must_be_folk(deed[1])
        self.office.must_be_role(deed[2])
        self.office.must_be_folk(deed[3])

    def must_be_asked(self, state, deed):
        self.office.must_be_state(state)
        self.must_be_deed(deed)

    def deed_bit(self, deed):
        return self.office.bit(deed[3], deed[2])

    def speaking(self, deed, letting):
        # Those that let something be done, or the bars, with their numbers.
        return [(number, rule) for number, rule in enumerate(self.rules, start=1)
                if rule.permits() == letting and rule.speaks_of(deed)]

    def lacking(self, state, deed, letting):
        lacks = []
        for number, rule in self.speaking(deed, letting):
            found = rule.missing(self.office, state, deed)
            if found is not None:
                lacks.append((number, found[0], found[1]))
        return lacks

    def deeds(self):
        return [deed for deed in deeds_of_office(self.office) if len(self.speaking(deed, True)) > 0]

    def missing(self, state, deed):
        self.must_be_asked(state, deed)
        held = (state & self.deed_bit(deed)) != 0
        if deed[0] == "give" and held:
            return [(0, deed[3], "held")]
        if deed[0] != "give" and not held:
            return [(0, deed[3], "not held")]
        letting = self.speaking(deed, True)
        if len(letting) == 0:
            return [(0, deed[1], "no rule")]
        lacks = self.lacking(state, deed, True)
        if len(lacks) == len(letting):
            return lacks
        return self.lacking(state, deed, False)[:1]

    def lets(self, state, deed):
        return len(self.missing(state, deed)) == 0

    def rule_for(self, state, deed):
        self.must_be_asked(state, deed)
        for number, rule in self.speaking(deed, True):
            if rule.missing(self.office, state, deed) is None:
                return number
        return 0

    def done(self, state, deed):
        lacks = self.missing(state, deed)
        if len(lacks) > 0:
            raise Lacks(lacks)
        # A deed that is let by changes its bit, so turning it tells the state behind.
        return state ^ self.deed_bit(deed)

    def ways(self, deed):
        self.must_be_deed(deed)
        ways = []
        for number, rule in self.speaking(deed, True):
            ways.extend(rule.ways(self.office, deed))
        bit = self.deed_bit(deed)
        ways = met_ways(ways, [(0, bit) if deed[0] == "give" else (bit, 0)])
        for number, rule in self.speaking(deed, False):
            ways = met_ways(ways, rule.ways(self.office, deed))
        return ways

    def is_number(self, thing):
        return is_whole(thing) and thing >= 1 and thing <= len(self.rules)

    def without(self, numbers):
        for number in numbers:
            if not self.is_number(number):
                raise NoNumber(number)
        left = [rule for number, rule in enumerate(self.rules, start=1) if number not in numbers]
        return Book(self.office, left)
