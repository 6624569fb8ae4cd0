"""Descriptions: which lots fit words, and the least words that are safe."""

from itertools import combinations


def covers(words, some):
    """Whether all of some words are among the words."""
    return all([word in words for word in some])


def fitting(lots, words):
    """The numbers, rising, of the lots of which all the words were said."""
    return [number for number, lot in enumerate(lots) if covers(lot[1], words)]


def masks_of(lots, bits):
    """The words of each lot as a sum of bits, each sum once; words without a bit don't count."""
    return sorted({sum([bits[word] for word in words if word in bits]) for words in lots})


def least_safe(faces, others):
    """The least words that fit one of the faces and none of the others, None where there are none.

    Faces and others are given by their words. A face all words of which were
    said of one of the others, too, is left out: no words tell the two apart.
    """
    # Lots are often alike: a long talk would have no end if each were asked beside each.
    barring = sorted(set(others))
    clear = [face for face in sorted(set(faces)) if not any([covers(other, face) for other in barring])]
    words = sorted({word for face in clear for word in face})
    bits = {word: 1 << k for k, word in enumerate(words)}
    wanted = masks_of(clear, bits)
    barred = masks_of(barring, bits)
    for size in range(len(words) + 1):
        for some in combinations(words, size):
            mask = sum([bits[word] for word in some])
            if any([mask & face == mask for face in wanted]) and all([mask & other != mask for other in barred]):
                return some
    return None


def name_in(lots, held):
    """The least description that is safe for what is held as one thing, None where there is none.

    Of each lot it is told as which thing it is held, and its words.
    """
    faces = [words for lot, words in lots if lot == held]
    others = [words for lot, words in lots if lot != held]
    return least_safe(faces, others)
