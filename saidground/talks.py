"""Letters, their grounds, and what was said in them, by the letters alone."""

from saidground.descriptions import fitting
from saidground.lots import lots_of


def are_among(some, names):
    """Whether all of some letters' names are among the names."""
    there = {name: True for name in names}
    return all([name in there for name in some])


def names_can_stand(number, names, others):
    """Whether a letter's names can stand beside those, by numbers, of other letters of its writer that were read.

    They tell of all that those of lesser numbers tell of, and of nothing
    that those of greater numbers don't. Those others stand so to one another,
    so the next ones are enough.
    """
    lesser = [other for other in others if other < number]
    greater = [other for other in others if other > number]
    if lesser and not are_among(others[max(lesser)], names):
        return False
    return not greater or are_among(names, others[min(greater)])


class Talks:
    """Letters by (writer, reader, number), and what each description in them means.

    The meaning is found once, as the letter is put in: a meaning found anew
    in each file that has the letter would ask for all the grounds below it.
    """

    def __init__(self):
        self.letters = {}
        self.meant = {}

    def copy(self):
        """The same letters, to go on by themselves."""
        twin = Talks()
        twin.letters = {key: self.letters[key] for key in self.letters}
        twin.meant = {slot: self.meant[slot] for slot in self.meant}
        return twin

    def ground(self, writer, reader, names):
        """The keys, rising, of the ground's letters of a letter with these names."""
        yours = [(reader, writer, number) for hand, number in names if hand == reader]
        mine = [(writer, reader, number) for key in yours for hand, number in self.letters[key][3] if hand == writer]
        return sorted(set(yours + mine))

    def slots(self, keys):
        """The slots of letters that are here, by their keys: rising where these are."""
        return [(*key, k) for key in keys for k in range(len(self.letters[key][4]))]

    def public_file(self, keys, more=()):
        """The public file of letters that are here, by their keys, rising, with their grounds.

        Slots that stand together in one of the rows of more are one, too.
        """
        slots = self.slots(keys)
        words = [self.letters[slot[:3]][4][slot[3]][1] for slot in slots]
        meant = [(slot, *self.meant[slot]) for slot in slots if slot in self.meant]
        return lots_of(slots, words, meant + list(more))

    def hold(self, letter):
        """Take in a letter; what its descriptions mean is to be found yet."""
        self.letters[letter[:3]] = letter

    def find_meanings(self, letter, lots):
        """Find what the letter's descriptions mean; lots are the public file of its ground.

        Of each lot that fits its first slot is kept alone: the others are one
        with it in each file that has the ground's letters, and in the files
        of the letter's writer and its reader.
        """
        for k, line in enumerate(letter[4]):
            if line[0] is not None:
                meant = [lots[number][0][0] for number in fitting(lots, line[0])]
                self.meant[letter[:3] + (k,)] = tuple(meant)

    def put(self, letter, lots):
        """Take in a letter, and find what its descriptions mean."""
        self.hold(letter)
        self.find_meanings(letter, lots)

    def meanings(self, letter):
        """What each of a letter's descriptions means, in their order."""
        return [self.meant[letter[:3] + (k,)] for k, line in enumerate(letter[4]) if line[0] is not None]
