"""How what is told is put into words, for the desk."""

from mightever.errors import Doubled, Lacks, NoBook, NoFolk, NoNumber, NoRole, NoWant, NoWish, Ring, TooMany


def listed(texts):
    return "; ".join(texts)


def headed(word, texts):
    # The word stands by itself where there is nothing to be listed.
    return " ".join([word, listed(texts)]) if len(texts) > 0 else word


def yes_or_no(truth):
    return "yes" if truth else "no"


def number_or_none(number):
    return "none" if number is None else str(number)


def words_of_numbers(numbers):
    return "none" if numbers is None else listed([str(number) for number in numbers])


def words_of_rights(rights):
    return listed([f"{who} {role}" for who, role in rights])


def words_of_lacks(lacks):
    return listed([f"{number} {who} {condition}" for number, who, condition in lacks])


def words_of_deed(deed):
    # Who lays down a role lays down one's own, and is told once.
    return " ".join(deed[:3] if deed[0] == "lay" else deed)


def words_of_answer(told):
    if told[0] == "row":
        return headed("by", [words_of_deed(deed) for deed in told[1]])
    return headed("never", [f"{held}/{free}" for held, free in told[1]])


def words_of_apart(told):
    if told is None:
        return "alike"
    deeds = listed([words_of_deed(deed) for deed in told[0] + [told[1]]])
    return " ".join(["apart", str(told[2]), deeds])


def words_of_book_refusal(refusal):
    if isinstance(refusal, NoBook):
        return "NoBook " + str(refusal.line)
    if isinstance(refusal, Doubled):
        return "Doubled " + refusal.name
    if isinstance(refusal, Ring):
        return "Ring " + refusal.name
    if isinstance(refusal, TooMany):
        return "TooMany " + str(refusal.many)
    # It is made of nothing, and no other refusal is left that a desk comes to and tells what it was made of.
    return "Unlike"


def words_of_refusal(refusal):
    if isinstance(refusal, NoFolk):
        return "NoFolk " + refusal.name
    if isinstance(refusal, NoRole):
        return "NoRole " + refusal.name
    if isinstance(refusal, NoNumber):
        return "NoNumber " + str(refusal.number)
    if isinstance(refusal, Lacks):
        return "Lacks " + words_of_lacks(refusal.lacks)
    if isinstance(refusal, NoWish):
        return "NoWish " + refusal.found
    if isinstance(refusal, NoWant):
        return "NoWant " + str(refusal.number)
    return words_of_book_refusal(refusal)
