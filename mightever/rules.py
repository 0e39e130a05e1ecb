"""Rules: three kinds that let something be done, and three kinds of bars."""

from mightever.conditions import Has, ways_of_parts


def is_of(deed, verb, role):
    return deed[0] == verb and deed[2] == role


def terms_row(link, terms):
    if len(terms) == 0:
        return ""
    return " " + link + " " + " and ".join([term.row() for term in terms])


def names_of_terms(terms):
    return [term.role for term in terms]


def parts_of_terms(who, terms):
    return [(who, term) for term in terms]


def first_missing(office, state, parts):
    for who, condition in parts:
        if not condition.holds(office, state, who):
            return (who, condition.row())
    return None


def masks_of_size(bits, size):
    # Each bit doubles the sets found so far: those without it, and those with it.
    sets = [(0, 0)]
    for bit in bits:
        sets = sets + [(many + 1, mask | bit) for many, mask in sets]
    return [mask for many, mask in sets if many == size]


class Rule:
    pass


class Give(Rule):
    def __init__(self, role, by, terms):
        self.role = role
        self.by = by
        self.terms = tuple(terms)

    def permits(self):
        return True

    def row(self):
        return "give " + self.role + " by " + self.by + terms_row("to", self.terms)

    def names(self):
        return [self.role, self.by] + names_of_terms(self.terms)

    def speaks_of(self, deed):
        return is_of(deed, "give", self.role)

    def asked(self, deed):
        return [(deed[1], Has(self.by))] + parts_of_terms(deed[3], self.terms)

    def missing(self, office, state, deed):
        return first_missing(office, state, self.asked(deed))

    def ways(self, office, deed):
        return ways_of_parts(office, self.asked(deed))


class Take(Rule):
    def __init__(self, role, by, terms):
        self.role = role
        self.by = by
        self.terms = tuple(terms)

    def permits(self):
        return True

    def row(self):
        return "take " + self.role + " by " + self.by + terms_row("from", self.terms)

    def names(self):
        return [self.role, self.by] + names_of_terms(self.terms)

    def speaks_of(self, deed):
        return is_of(deed, "take", self.role)

    def asked(self, deed):
        return [(deed[1], Has(self.by))] + parts_of_terms(deed[3], self.terms)

    def missing(self, office, state, deed):
        return first_missing(office, state, self.asked(deed))

    def ways(self, office, deed):
        return ways_of_parts(office, self.asked(deed))


class Lay(Rule):
    def __init__(self, role, terms):
        self.role = role
        self.terms = tuple(terms)

    def permits(self):
        return True

    def row(self):
        return "lay " + self.role + terms_row("if", self.terms)

    def names(self):
        return [self.role] + names_of_terms(self.terms)

    def speaks_of(self, deed):
        return is_of(deed, "lay", self.role)

    def asked(self, deed):
        return parts_of_terms(deed[3], self.terms)

    def missing(self, office, state, deed):
        return first_missing(office, state, self.asked(deed))

    def ways(self, office, deed):
        return ways_of_parts(office, self.asked(deed))


class Both(Rule):
    def __init__(self, one, other):
        self.one = one
        self.other = other

    def permits(self):
        return False

    def row(self):
        return "both " + self.one + " " + self.other

    def names(self):
        return [self.one, self.other]

    def speaks_of(self, deed):
        return deed[0] == "give"

    def missing(self, office, state, deed):
        getter = deed[3]
        behind = state | office.bit(getter, deed[2])
        if office.has(behind, getter, self.one) and office.has(behind, getter, self.other):
            return (getter, self.row())
        return None

    def ways(self, office, deed):
        getter = deed[3]
        given = office.bit(getter, deed[2])
        masks = [office.having(getter, role) for role in self.names()]
        return [(0, mask) for mask in masks if (mask & given) == 0]


class Most(Rule):
    def __init__(self, most, role):
        self.most = most
        self.role = role

    def permits(self):
        return False

    def row(self):
        return "most " + str(self.most) + " " + self.role

    def names(self):
        return [self.role]

    def speaks_of(self, deed):
        return is_of(deed, "give", self.role)

    def missing(self, office, state, deed):
        getter = deed[3]
        others = [who for who in office.holders(state, self.role) if who != getter]
        if len(others) >= self.most:
            return (getter, self.row())
        return None

    def ways(self, office, deed):
        bits = [office.bit(who, self.role) for who in office.folk if who != deed[3]]
        # All but one fewer than the most have to be without the role; nobody, where there are so few.
        without = max(len(bits) - self.most + 1, 0)
        return [(0, mask) for mask in masks_of_size(bits, without)]


class Last(Rule):
    def __init__(self, role):
        self.role = role

    def permits(self):
        return False

    def row(self):
        return "last " + self.role

    def names(self):
        return [self.role]

    def speaks_of(self, deed):
        return is_of(deed, "take", self.role) or is_of(deed, "lay", self.role)

    def missing(self, office, state, deed):
        loser = deed[3]
        others = [who for who in office.holders(state, self.role) if who != loser]
        if len(others) == 0:
            return (loser, self.row())
        return None

    def ways(self, office, deed):
        return [(office.bit(who, self.role), 0) for who in office.folk if who != deed[3]]
