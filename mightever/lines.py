"""What stands in the words of a request: numbers, bans, deeds, rights and wishes, or None where they have no form."""

FIGURES = "0123456789"
LONGEST_NUMBER = 9
MOST_WISHES = 3


def number_of(word):
    if len(word) < 1 or len(word) > LONGEST_NUMBER or not all([sign in FIGURES for sign in word]):
        return None
    return None if word[0] == "0" and len(word) > 1 else int(word)


def ban_of(word):
    numbers = [number_of(part) for part in word.split("/")]
    return None if len(numbers) != 2 or None in numbers else tuple(numbers)


def deed_of(words):
    if len(words) == 4 and (words[0] == "give" or words[0] == "take"):
        return tuple(words)
    if len(words) == 3 and words[0] == "lay":
        return (words[0], words[1], words[2], words[1])
    return None


def rights_of(words):
    if len(words) % 2 == 1:
        return None
    return [(words[place], words[place + 1]) for place in range(0, len(words), 2)]


def wishes_of(words):
    # The rows of wishes between which a word `/` stands; each has one word at least.
    wishes = [[]]
    for word in words:
        if word == "/":
            wishes.append([])
        else:
            wishes[-1].append(word)
    if len(wishes) > MOST_WISHES or [] in wishes:
        return None
    return [" ".join(wish) for wish in wishes]


def bans_and_wish_of(words):
    if "for" not in words:
        return None
    place = words.index("for")
    bans = [ban_of(word) for word in words[:place]]
    wish = words[place + 1:]
    return None if None in bans or len(wish) == 0 else (bans, " ".join(wish))
