"""The forms of hands, words, deeds and letters, asked of anything."""

SIGNS = "abcdefghijklmnopqrstuvwxyz"
LONGEST = 8
FEWEST_HANDS = 2
MOST_HANDS = 5
GREATEST_NUMBER = 60


def is_whole(thing, least=0):
    """Whether a thing is a whole number, and at least that one."""
    return isinstance(thing, int) and not isinstance(thing, bool) and thing >= least


def is_word(thing):
    """Whether a thing is a word, or a hand: one to eight letters from a to z."""
    if not isinstance(thing, str) or not 1 <= len(thing) <= LONGEST:
        return False
    return all([sign in SIGNS for sign in thing])


def is_rising(row):
    """Whether each one of a row is greater than the one ahead."""
    return all([row[k] < row[k + 1] for k in range(len(row) - 1)])


def is_words(thing):
    """Whether a thing is a rising tuple of words."""
    return isinstance(thing, tuple) and all([is_word(word) for word in thing]) and is_rising(thing)


def are_hands(thing):
    """Whether a thing is a rising tuple of two to five hands."""
    return is_words(thing) and FEWEST_HANDS <= len(thing) <= MOST_HANDS


def is_row(thing, many):
    """Whether a thing is a tuple of so many."""
    return isinstance(thing, tuple) and len(thing) == many


def is_line(thing):
    """Whether a thing is a line as a deed has it: a card, and words."""
    return is_row(thing, 2) and is_whole(thing[0]) and is_words(thing[1])


def are_lines(thing):
    """Whether a thing is the lines that a deed writes."""
    return isinstance(thing, tuple) and all([is_line(line) for line in thing])


def is_deed(thing, hands):
    """Whether a thing is of a deed's form, with hands of these."""
    if not is_row(thing, 4) or thing[1] not in hands:
        return False
    kind, hand, what, last = thing
    if kind in ("see", "look"):
        return is_whole(what) and is_words(last)
    if kind == "one":
        return is_whole(what) and is_whole(last)
    if what not in hands or what == hand:
        return False
    if kind == "write":
        return are_lines(last)
    return kind == "read" and is_whole(last, 1)


def is_name(thing, writer):
    """Whether a thing tells of a letter to the writer: a hand other than it, and a number."""
    return is_row(thing, 2) and is_word(thing[0]) and thing[0] != writer and is_whole(thing[1], 1)


def are_names(thing, writer):
    """Whether a thing is a rising tuple of such tellings."""
    return isinstance(thing, tuple) and all([is_name(name, writer) for name in thing]) and is_rising(thing)


def is_told_line(thing):
    """Whether a thing is a line as a letter tells it: None or a description, and words."""
    return is_row(thing, 2) and (thing[0] is None or is_words(thing[0])) and is_words(thing[1])


def are_told_lines(thing):
    """Whether a thing is the lines that a letter tells."""
    return isinstance(thing, tuple) and all([is_told_line(line) for line in thing])


def is_letter(thing):
    """Whether a thing is a letter by form."""
    if not is_row(thing, 5):
        return False
    writer, reader, number, names, lines = thing
    if not is_word(writer) or not is_word(reader) or writer == reader or not is_whole(number, 1):
        return False
    return are_names(names, writer) and are_told_lines(lines)


def is_number(thing):
    """Whether a thing is a letter's number as views and letters that are read tell it."""
    return is_whole(thing, 1) and thing <= GREATEST_NUMBER


def are_names_of(thing, hands):
    """Whether a thing is a rising tuple of tuples (one of the hands, a letter's number)."""
    if not isinstance(thing, tuple) or not all([is_row(name, 2) for name in thing]):
        return False
    return all([hand in hands and is_number(number) for hand, number in thing]) and is_rising(thing)


def is_entry(thing, hands):
    """Whether a thing is of the form of a view's entry, with hands of these."""
    if is_row(thing, 2):
        return thing[0] == "see" and is_words(thing[1])
    if is_row(thing, 5):
        kind, other, number, names, lines = thing
        if kind != "read" or other not in hands or not is_number(number):
            return False
        return are_names_of(names, hands) and are_told_lines(lines)
    if not is_row(thing, 3):
        return False
    kind, what, last = thing
    if kind == "write":
        return what in hands and are_lines(last)
    if not is_whole(what):
        return False
    return is_words(last) if kind == "look" else kind == "one" and is_whole(last)


def is_view(thing, hands):
    """Whether a thing is of a view's form, with hands of these."""
    if not is_row(thing, 2) or thing[0] not in hands or not isinstance(thing[1], tuple):
        return False
    return all([is_entry(entry, hands) for entry in thing[1]])
