"""Offices: folk, roles, which role stands above which, and who holds what in a state."""

from mightever.errors import Doubled, NoFolk, NoRole, NoState, NoWord, Ring, TooMany
from mightever.words import is_name, is_whole

MOST_FOLK = 4
MOST_ROLES = 6
MOST_BITS = 12
MOST_PAIRS = 15


def is_among(thing, names):
    # Only a text is held against the names, so that a thing of another kind can't pass for one by its own ==.
    return isinstance(thing, str) and thing in names


def checked_names(names, most):
    if len(names) < 1 or len(names) > most:
        raise TooMany(len(names))
    checked = []
    for name in names:
        if not is_name(name):
            raise NoWord(name)
        if name in checked:
            raise Doubled(name)
        checked.append(name)
    return tuple(checked)


def bringing_by(pairs, role):
    # The roles that bring the role, itself first; each one found is gone up from in its turn.
    found = [role]
    place = 0
    while place < len(found):
        for upper, lower in pairs:
            if lower == found[place] and upper not in found:
                found.append(upper)
        place = place + 1
    return found


def checked_pairs(pairs, roles):
    if len(pairs) > MOST_PAIRS:
        raise TooMany(len(pairs))
    checked = []
    for upper, lower in pairs:
        if not is_among(upper, roles):
            raise NoRole(upper)
        if not is_among(lower, roles):
            raise NoRole(lower)
        if (upper, lower) in checked:
            raise Doubled(upper)
        # A role is among those that bring it, so this finds a pair of one role too.
        if lower in bringing_by(checked, upper):
            raise Ring(upper)
        checked.append((upper, lower))
    return tuple(checked)


def bits_of_rights(folk, roles):
    # In the order of the places, so that a walk over the dict tells rights in their order.
    bits = {}
    power = 1
    for who in folk:
        for role in roles:
            bits[(who, role)] = power
            power = power + power
    return bits


def bringers_of_roles(roles, pairs):
    bringers = {}
    for role in roles:
        found = bringing_by(pairs, role)
        bringers[role] = tuple([upper for upper in roles if upper in found])
    return bringers


class Office:
    def __init__(self, folk, roles, pairs):
        self.folk = checked_names(folk, MOST_FOLK)
        self.roles = checked_names(roles, MOST_ROLES)
        if len(self.folk) * len(self.roles) > MOST_BITS:
            raise TooMany(len(self.folk) * len(self.roles))
        self.pairs = checked_pairs(pairs, self.roles)
        # Worked out once: an office is never changed, and these are asked often.
        self.right_bits = bits_of_rights(self.folk, self.roles)
        self.bringers = bringers_of_roles(self.roles, self.pairs)

    def must_be_state(self, thing):
        if not self.is_state(thing):
            raise NoState(thing)

    def must_be_folk(self, thing):
        if not is_among(thing, self.folk):
            raise NoFolk(thing)

    def must_be_role(self, thing):
        if not is_among(thing, self.roles):
            raise NoRole(thing)

    def bringing(self, role):
        self.must_be_role(role)
        return list(self.bringers[role])

    def bits(self):
        return len(self.right_bits)

    def bit(self, who, role):
        self.must_be_folk(who)
        self.must_be_role(role)
        return self.right_bits[(who, role)]

    def is_state(self, thing):
        return is_whole(thing) and thing >= 0 and thing.bit_length() <= self.bits()

    def having(self, who, role):
        self.must_be_folk(who)
        mask = 0
        for upper in self.bringing(role):
            mask = mask | self.right_bits[(who, upper)]
        return mask

    def has(self, state, who, role):
        self.must_be_state(state)
        return (state & self.having(who, role)) != 0

    def holders(self, state, role):
        self.must_be_state(state)
        self.must_be_role(role)
        return [who for who in self.folk if (state & self.right_bits[(who, role)]) != 0]

    def rights(self, state):
        self.must_be_state(state)
        return [right for right, bit in self.right_bits.items() if (state & bit) != 0]

    def state_of(self, rights):
        state = 0
        for who, role in rights:
            state = state | self.bit(who, role)
        return state
