"""Conditions on one of the folk, their ways, and lists of ways met."""


def met_ways(one, other):
    # A dict keeps the order in which the ways came, and each of them once.
    met = {}
    for held, free in one:
        for more_held, more_free in other:
            way = (held | more_held, free | more_free)
            if (way[0] & way[1]) == 0:
                met[way] = True
    return list(met)


def ways_of_parts(office, parts):
    # The ways of several conditions at once, each part being one of the folk and a condition.
    ways = [(0, 0)]
    for who, condition in parts:
        ways = met_ways(ways, condition.ways(office, who))
    return ways


class Condition:
    def __init__(self, role):
        self.role = role


class Has(Condition):
    def holds(self, office, state, who):
        return office.has(state, who, self.role)

    def row(self):
        return "has " + self.role

    def ways(self, office, who):
        # Asked by itself, since what is wrong with the folk is told ahead of what is wrong with the role.
        office.must_be_folk(who)
        return [(office.bit(who, upper), 0) for upper in office.bringing(self.role)]


class Not(Condition):
    def holds(self, office, state, who):
        return not office.has(state, who, self.role)

    def row(self):
        return "not " + self.role

    def ways(self, office, who):
        return [(0, office.having(who, self.role))]
