"""Hands by themselves: each keeps its own cards and letters alone."""

from saidground.descriptions import fitting, name_in
from saidground.errors import NoCard, NoHand, NoHands, NoLetter, NoLines, NoWords
from saidground.forms import are_hands, are_lines, are_names_of, is_letter, is_number, is_whole, is_words
from saidground.keeping import Keeping
from saidground.lots import Lots


class Hand:
    """One hand, which knows of nobody else's deeds."""

    def __init__(self, name, hands):
        if not are_hands(hands):
            raise NoHands()
        if name not in hands:
            raise NoHand()
        self.hand = name
        self.hands = hands
        self.lots = Lots()
        self.keepings = {other: Keeping(name, other) for other in hands if other != name}

    def see(self, words):
        """The number of the new card of a thing that is seen."""
        if not is_words(words):
            raise NoWords()
        return self.lots.new(words)

    def look(self, card, words):
        """See words of a card's thing."""
        self.check_card(card)
        if not is_words(words):
            raise NoWords()
        self.lots.learn(card, words)

    def one(self, card, other):
        """Find that two cards are of one thing."""
        self.check_card(card)
        self.check_card(other)
        self.lots.unite(card, other)

    def write(self, to, lines):
        """The next letter to another hand."""
        keeping = self.keeping(to)
        if not are_lines(lines):
            raise NoLines()
        if not self.lots.has_all(lines):
            raise NoCard()
        if not self.lots.may_stand(lines):
            raise NoLines()
        file = keeping.file(keeping.own_ground())
        lots = [(self.head(keeping, places), words) for places, words in file]
        told = tuple([(name_in(lots, self.lots.head(card)), words) for card, words in lines])
        names = self.names()
        sheet = keeping.next_sheet(names, tuple([line[0] for line in told]), file)
        keeping.written += 1
        keeping.keep((self.hand, keeping.written), sheet, [words for card, words in lines])
        keeping.give_cards(sheet, [card for card, words in lines])
        return self.hand, to, keeping.written, names, told

    def read(self, letter):
        """The cards for a letter's lines, each the least of its lot; None of a letter that was read ahead."""
        if not self.may_come(letter):
            raise NoLetter(("form",))
        writer, reader, number, names, lines = letter
        if self.keepings[writer].has_read(number):
            return None
        if not self.keepings[writer].names_can_be(number, names):
            raise NoLetter(("names",))
        # The letter is tried on a copy, so what is refused changes nothing.
        keeping = self.keepings[writer].copy()
        file = keeping.file(keeping.ground(writer, names))
        for k, line in enumerate(lines):
            if line[0] is not None and not fitting(file, line[0]):
                raise NoLetter(("line", k))
        sheet = keeping.next_sheet(names, tuple([line[0] for line in lines]), file)
        keeping.keep((writer, number), sheet, [line[1] for line in lines])
        lesser = keeping.first_lesser(number)
        if lesser is not None:
            raise NoLetter(("lesser", *lesser))
        cards = [self.read_line(keeping, meant, line[1]) for meant, line in zip(sheet.meant, lines)]
        keeping.give_cards(sheet, cards)
        keeping.close_gap()
        self.keepings[writer] = keeping
        return [self.lots.head(card) for card in cards]

    def file(self):
        """The lots of the hand's file: tuples (cards, words), by first cards."""
        return self.lots.listed()

    def ground(self, other):
        """The lots of the ground of the next letter to another hand, each with words and the hand's least card."""
        keeping = self.keeping(other)
        return sorted([(words, self.head(keeping, places)) for places, words in keeping.file(keeping.own_ground())])

    def kept(self, other):
        """How many letters to and from another hand are kept."""
        return len(self.keeping(other).sheets)

    def copy(self):
        """Another Hand that stands as this one."""
        twin = Hand(self.hand, self.hands)
        twin.lots = self.lots.copy()
        twin.keepings = {other: self.keepings[other].copy() for other in self.keepings}
        return twin

    def check_card(self, card):
        """Refuse what is no card of the hand."""
        if not is_whole(card) or not self.lots.has(card):
            raise NoCard()

    def keeping(self, other):
        """What is kept of the letters to and from another hand."""
        if other not in self.hands or other == self.hand:
            raise NoHand()
        return self.keepings[other]

    def head(self, keeping, places):
        """The least card of the hand's lot for a lot of a ground's file: all its places are one by the file."""
        return self.lots.head(keeping.cards[places[0]])

    def names(self):
        """The names that the next letter has: all letters that were read."""
        read = [(other, number) for other in self.hands if other != self.hand
                for number in self.keepings[other].read_numbers()]
        return tuple(read)

    def may_come(self, letter):
        """Whether anything is a letter by form, to this hand, by another one of these and with names of these."""
        if not is_letter(letter):
            return False
        writer, reader, number, names, lines = letter
        if reader != self.hand or writer not in self.hands:
            return False
        return is_number(number) and are_names_of(names, self.hands)

    def read_line(self, keeping, meant, words):
        """The card for a line that means what stands at these places, or nothing told before."""
        if not meant:
            return self.lots.new(words)
        cards = [keeping.cards[place] for place in meant]
        for card in cards:
            self.lots.unite(cards[0], card)
        self.lots.learn(cards[0], words)
        return cards[0]
