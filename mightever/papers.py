"""Papers: lists of bans which show that what they ban never comes."""

from mightever.come import Coming, is_of_one, must_be_beginning, turns_of


def is_nothing(way):
    return (way[0] & way[1]) != 0


def lies_within(way, ban):
    return (way[0] & ban[0]) == ban[0] and (way[1] & ban[1]) == ban[1]


def leading(ban, way, bit, sets):
    # A ban that asks for the bit as it is ahead of the deed isn't led into; one that asks for it as it is behind is
    # led into by turning it, so this is no longer asked for ahead.
    if sets:
        into = None if (ban[1] & bit) != 0 else (way[0] | (ban[0] & ~bit), way[1] | ban[1] | bit)
    else:
        into = None if (ban[0] & bit) != 0 else (way[0] | ban[0] | bit, way[1] | (ban[1] & ~bit))
    return None if into is None or is_nothing(into) else into


class Shelf:
    def __init__(self):
        self.bans = []
        # By the bits that a ban asks for, as held or as free, those that it asks for as held: so all bans that ask for
        # the same bits are looked through at once.
        self.helds = {}

    def put(self, ban):
        self.bans.append(ban)
        self.helds.setdefault(ban[0] | ban[1], {}).setdefault(ban[0], True)

    def covers(self, way):
        # Whether the way, which must not be nothing, lies within one of the bans.
        asked = way[0] | way[1]
        for bits, helds in self.helds.items():
            if (asked & bits) == bits and (way[0] & bits) in helds:
                return True
        return False


def shelf_of_widest(ways):
    # A way that lies within another one, or is nothing, adds nothing: what lies within it lies within the other one,
    # and what leads into it, or by it into a ban, lies within what the other one tells.
    shelf = Shelf()
    # The wider of two asks for less, in sum too, and so comes first.
    for way in sorted(ways, key=sum):
        if not is_nothing(way) and not shelf.covers(way):
            shelf.put(way)
    return shelf


def widest_turns(turns):
    return [(turn[0], turn[1], shelf_of_widest(ways).bans) for turn, ways in turns.items()]


def ways_into(ban, turns):
    found = []
    for bit, sets, ways in turns:
        found.extend([leading(ban, way, bit, sets) for way in ways])
    return [way for way in found if way is not None]


def is_paper(book, start, trusted, goals, bans):
    must_be_beginning(book, start, trusted)
    if is_of_one(start, bans):
        return False
    shelf = shelf_of_widest(bans)
    if not all([is_nothing(way) or shelf.covers(way) for way in goals]):
        return False
    turns = widest_turns(turns_of(book, trusted))
    for ban in shelf.bans:
        if not all([shelf.covers(way) for way in ways_into(ban, turns)]):
            return False
    return True


def widened(way, states):
    # Of each of the states the asked bits by which it isn't of the way; where it is one bit alone, that one stays.
    asked = way[0] | way[1]
    apart = [(state ^ way[0]) & asked for state in states]
    bit = 1
    while bit <= asked:
        if (asked & bit) != 0 and bit not in apart:
            asked = asked ^ bit
            apart = sorted(set([mask & asked for mask in apart]))
        bit = bit + bit
    return (way[0] & asked, way[1] & asked)


def bans_against(coming, goals):
    states = coming.states()
    turns = widest_turns(coming.turns)
    shelf = Shelf()
    # No state that is come to is of these, nor of what leads into a ban that is of none: so each may be widened.
    asked = [way for way in goals if not is_nothing(way)]
    place = 0
    while place < len(asked):
        if not shelf.covers(asked[place]):
            ban = widened(asked[place], states)
            shelf.put(ban)
            asked.extend(ways_into(ban, turns))
        place = place + 1
    return shelf.bans


def answer(book, start, trusted, goals):
    coming = Coming(book, start, trusted)
    row = coming.row_to(goals)
    return ("never", bans_against(coming, goals)) if row is None else ("row", row)


def paper(book, start, trusted, goals):
    told = answer(book, start, trusted, goals)
    return told[1] if told[0] == "never" else None
