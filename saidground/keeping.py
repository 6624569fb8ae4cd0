"""What a hand keeps of its letters to and from another one."""

from saidground.descriptions import fitting, name_in
from saidground.lots import lots_of
from saidground.talks import names_can_stand


class Sheet:
    """A letter as a hand keeps it: never changed, so a copy of the hand may have it, too.

    The places are those of its lines, and meant is what each line's
    description means: places, one of each lot that fits.
    """

    def __init__(self, names, descriptions, places, meant):
        self.names = names
        self.descriptions = descriptions
        self.places = places
        self.meant = meant

    def joins(self):
        """What its descriptions join."""
        return [(place, *meant) for place, meant in zip(self.places, self.meant)]

    def moved(self, places):
        """The same letter, where places that it means have become others."""
        meant = [tuple([places.get(place, place) for place in some]) for some in self.meant]
        return Sheet(self.names, self.descriptions, self.places, tuple(meant))


class Keeping:
    """The letters of two hands that aren't laid together yet, and the lots of those that are.

    A place is a line of a kept letter, or a laid lot. All letters to come
    rest on what is laid, so the file of any ground has it, and its letters
    needn't be told apart any more.
    """

    def __init__(self, hand, other):
        self.hand = hand
        self.other = other
        self.written = 0
        self.read_all = 0
        self.count = 0
        self.laid = []
        self.said = {}
        self.cards = {}
        self.sheets = {}

    def copy(self):
        """The same, to go on by itself."""
        twin = Keeping(self.hand, self.other)
        twin.written = self.written
        twin.read_all = self.read_all
        twin.count = self.count
        twin.laid = list(self.laid)
        twin.said = {place: self.said[place] for place in self.said}
        twin.cards = {place: self.cards[place] for place in self.cards}
        twin.sheets = {key: self.sheets[key] for key in self.sheets}
        return twin

    def kept_numbers(self):
        """The numbers, rising, of the other's letters that are kept."""
        return sorted([number for hand, number in self.sheets if hand == self.other])

    def read_numbers(self):
        """The numbers, rising, of all of the other's letters that were read."""
        ahead = [number for number in self.kept_numbers() if number > self.read_all]
        return list(range(1, self.read_all + 1)) + ahead

    def has_read(self, number):
        """Whether the other's letter of that number was read."""
        return number <= self.read_all or (self.other, number) in self.sheets

    def told_by(self, names, hand):
        """The keys of the kept letters of a hand that names tell of."""
        return [(hand, number) for teller, number in names if teller == hand and (hand, number) in self.sheets]

    def ground(self, writer, names):
        """The keys of the kept letters in the ground of a letter by one of the two with these names."""
        reader = self.other if writer == self.hand else self.hand
        theirs = self.told_by(names, reader)
        own = [key for their in theirs for key in self.told_by(self.sheets[their].names, writer)]
        return theirs + sorted(set(own))

    def own_ground(self):
        """The keys of the kept letters in the ground of the hand's next letter."""
        return self.ground(self.hand, [(self.other, number) for number in self.kept_numbers()])

    def file(self, keys):
        """The lots, by their places, of what is laid and of kept letters, with the words that were said."""
        sheets = [self.sheets[key] for key in keys]
        places = sorted(self.laid + [place for sheet in sheets for place in sheet.places])
        joins = [join for sheet in sheets for join in sheet.joins()]
        return lots_of(places, [self.said[place] for place in places], joins)

    def next_sheet(self, names, descriptions, lots):
        """The letter with these names and descriptions, whose ground's file these lots are."""
        places = tuple([self.count + k for k in range(len(descriptions))])
        meant = [() if words is None else tuple([lots[at][0][0] for at in fitting(lots, words)])
                 for words in descriptions]
        return Sheet(names, descriptions, places, tuple(meant))

    def keep(self, key, sheet, said):
        """Keep a letter, with the words that its lines say."""
        self.sheets[key] = sheet
        self.count += len(sheet.places)
        for place, words in zip(sheet.places, said):
            self.said[place] = words

    def give_cards(self, sheet, cards):
        """The hand's cards for the lines of a letter."""
        for place, card in zip(sheet.places, cards):
            self.cards[place] = card

    def names_can_be(self, number, names):
        """Whether the names of a letter of the other's tell of what was written, and can stand beside those read."""
        if any([hand == self.hand and told > self.written for hand, told in names]):
            return False
        # The letter at which no gap is yet is kept, so the next lesser one is here.
        others = {told: self.sheets[(self.other, told)].names for told in self.kept_numbers()}
        return names_can_stand(number, names, others)

    def first_lesser(self, number):
        """Of the other's kept letters from a number on, the first number and line that can't be; None of none."""
        for later in self.kept_numbers():
            if later >= number:
                line = self.lesser_line(later)
                if line is not None:
                    return later, line
        return None

    def lesser_line(self, number):
        """The first line of a kept letter of the other's that had a lesser name, or is one with one ahead of it.

        That is by what the other held at least when it wrote the letter: what
        its own letters up to that one mean, and those that it had read.
        """
        sheet = self.sheets[(self.other, number)]
        own = [(self.other, earlier) for earlier in self.kept_numbers() if earlier <= number]
        held = self.file(own + self.told_by(sheet.names, self.hand))
        lot_of = {member: at for at, lot in enumerate(held) for member in lot[0]}
        lots = [(lot_of[places[0]], words) for places, words in self.file(self.ground(self.other, sheet.names))]
        ahead = {}
        for k, (place, description) in enumerate(zip(sheet.places, sheet.descriptions)):
            at_least = lot_of[place]
            if at_least in ahead or (description is not None and name_in(lots, at_least) != description):
                return k
            ahead[at_least] = True
        return None

    def close_gap(self):
        """Where more of the other's letters are read without a gap now, lay the last one's ground together."""
        before = self.read_all
        while (self.other, self.read_all + 1) in self.sheets:
            self.read_all += 1
        if self.read_all > before:
            self.lay(self.ground(self.other, self.sheets[(self.other, self.read_all)].names))

    def lay(self, keys):
        """Lay kept letters together: of each lot of theirs, and of those laid before, one place stays."""
        moved = {}
        laid = []
        for places, words in self.file(keys):
            laid.append(places[0])
            self.said[places[0]] = words
            for place in places[1:]:
                moved[place] = places[0]
                del self.said[place]
                del self.cards[place]
        for key in keys:
            del self.sheets[key]
        self.laid = laid
        self.sheets = {key: self.sheets[key].moved(moved) for key in self.sheets}
