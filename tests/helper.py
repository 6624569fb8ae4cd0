"""A slow reading of the document, word by word, to ask the program against; and histories by chance.

Nothing here is taken from the program: lots are sets, meanings are found anew
from the letters, and names by trying all words there are.
"""

from itertools import combinations
from random import Random


def subsets(words):
    """All WORDS made of some words, by LESS."""
    words = sorted(words)
    return [some for size in range(len(words) + 1) for some in combinations(words, size)]


def joined(lots, chosen):
    """Lots (pairs of sets) where all that touch the chosen ones have become one."""
    touching = [lot for lot in lots if lot[0] & chosen]
    rest = [lot for lot in lots if not lot[0] & chosen]
    return rest + [(set().union(*[lot[0] for lot in touching]), set().union(*[lot[1] for lot in touching]))]


def listed(lots):
    """Lots as the program tells them."""
    return sorted((tuple(sorted(members)), tuple(sorted(words))) for members, words in lots)


def ground_of(told, writer, reader, names):
    """The ground's letters of a letter with these names, a set of keys."""
    yours = {(hand, writer, number) for hand, number in names if hand == reader}
    mine = {(writer, reader, number) for key in yours for hand, number in told[key][3] if hand == writer}
    return frozenset(yours | mine)


def public_file(told, keys, kept):
    """The public file of these letters, as pairs of sets; kept holds what was found before."""
    if keys not in kept:
        lots = [({(*key, k)}, set(line[1])) for key in keys for k, line in enumerate(told[key][4])]
        for key in keys:
            writer, reader, _, names, lines = told[key]
            below = public_file(told, ground_of(told, writer, reader, names), kept)
            for k, line in enumerate(lines):
                if line[0] is not None:
                    meant = [slots for slots, words in below if set(line[0]) <= words]
                    lots = joined(lots, {(*key, k)}.union(*meant))
        kept[keys] = lots
    return kept[keys]


class Slow:
    """A history's deeds, done one after the other as the document's words have it."""

    def __init__(self, hands):
        self.hands = hands
        self.deeds = []
        self.told = {}
        self.kept = {}
        self.words = set()
        self.true = {}
        self.lots = {hand: [] for hand in hands}
        self.things = {hand: [] for hand in hands}
        self.card_for = {hand: {} for hand in hands}
        self.read = {hand: set() for hand in hands}

    def history(self):
        return self.hands, tuple(self.deeds)

    def view(self, hand):
        return hand, tuple(self.entry(deed) for deed in self.deeds if deed[1] == hand)

    def entry(self, deed):
        kind, hand, what, last = deed
        if kind == "see":
            return kind, last
        return (kind, what, last, *self.told[(what, hand, last)][3:]) if kind == "read" else (kind, what, last)

    def lot(self, hand, card):
        return next(lot for lot in self.lots[hand] if card in lot[0])

    def new_card(self, hand, thing, words):
        card = len(self.things[hand])
        self.things[hand].append(thing)
        self.lots[hand].append(({card}, set(words)))
        return card

    def learn(self, hand, card, words):
        self.lot(hand, card)[1].update(words)

    def ground(self, hand, other):
        return ground_of(self.told, hand, other, self.read[hand])

    def ground_file(self, hand, other):
        return public_file(self.told, self.ground(hand, other), self.kept)

    def fit(self, lots, words):
        return [slots for slots, said in lots if set(words) <= said]

    def is_safe(self, hand, other, card, words):
        meant = self.fit(self.ground_file(hand, other), words)
        cards = {self.card_for[hand][slot] for slots in meant for slot in slots}
        return bool(meant) and cards <= self.lot(hand, card)[0]

    def name(self, hand, other, card):
        return next((words for words in subsets(self.words) if self.is_safe(hand, other, card, words)), None)

    def can(self, deed):
        kind, hand, what, last = deed
        many = len(self.things[hand])
        if kind == "look":
            return what < many
        if kind == "one":
            return what < many and last < many and self.things[hand][what] == self.things[hand][last]
        if kind == "write":
            if not all(card < many and set(words) <= self.lot(hand, card)[1] for card, words in last):
                return False
            return all(other not in self.lot(hand, card)[0] for (card, _), (other, _) in combinations(last, 2))
        return kind == "see" or (what, hand, last) in self.told

    def do(self, deed):
        kind, hand, what, last = deed
        if kind in ("see", "look"):
            self.words.update(last)
            self.true.setdefault(what if kind == "see" else self.things[hand][what], set()).update(last)
        if kind == "see":
            self.new_card(hand, what, last)
        elif kind == "look":
            self.learn(hand, what, last)
        elif kind == "one":
            self.lots[hand] = joined(self.lots[hand], {what, last})
        elif kind == "write":
            self.do_write(hand, what, last)
        elif (what, last) not in self.read[hand]:
            self.do_read(hand, what, last)
        self.deeds.append(deed)

    def do_write(self, hand, other, lines):
        number = 1 + len([key for key in self.told if key[:2] == (hand, other)])
        names = tuple(sorted(self.read[hand]))
        said = tuple((self.name(hand, other, card), words) for card, words in lines)
        self.told[(hand, other, number)] = (hand, other, number, names, said)
        for k, (card, _) in enumerate(lines):
            self.card_for[hand][(hand, other, number, k)] = card

    def thing(self, slot):
        return self.things[slot[0]][self.card_for[slot[0]][slot]]

    def do_read(self, hand, writer, number):
        _, _, _, names, lines = self.told[(writer, hand, number)]
        lots = public_file(self.told, ground_of(self.told, writer, hand, names), self.kept)
        for k, (name, words) in enumerate(lines):
            slot = (writer, hand, number, k)
            self.words.update(words)
            if name is None:
                self.card_for[hand][slot] = self.new_card(hand, self.thing(slot), words)
            else:
                meant = sorted(slot for slots in self.fit(lots, name) for slot in slots)
                cards = {self.card_for[hand][slot] for slot in meant}
                self.lots[hand] = joined(self.lots[hand], cards)
                self.card_for[hand][slot] = self.card_for[hand][meant[0]]
                self.learn(hand, self.card_for[hand][slot], words)
        self.read[hand].add((writer, number))


def played(history):
    """A Slow that has done a history's deeds."""
    slow = Slow(history[0])
    for deed in history[1]:
        assert slow.can(deed), deed
        slow.do(deed)
    return slow


class Alone(Slow):
    """What one hand holds by its view, with what it read put among the letters."""

    def __init__(self, hands, view):
        super().__init__(hands)
        hand, entries = view
        for entry in entries:
            if entry[0] == "see":
                self.must(("see", hand, 0, entry[1]))
            elif entry[0] != "read":
                self.must((entry[0], hand, *entry[1:]))
            else:
                letter = (entry[1], hand, *entry[2:])
                assert self.told.setdefault(letter[:3], letter) == letter
                assert entry[1] != hand and all(name[0] != entry[1] for name in entry[3])
                assert all(number <= self.many(hand, entry[1]) for name, number in entry[3] if name == hand)
                self.must(("read", hand, *entry[1:3]))

    def many(self, writer, reader):
        return len([key for key in self.told if key[:2] == (writer, reader)])

    def must(self, deed):
        assert len(deed) == 4 and deed[1] != deed[2] and self.can(deed)
        self.do(deed)

    def thing(self, slot):
        return 0


class Least(Slow):
    """A view's least history as point 21 tells it; where it can't be made, or has another view, an error."""

    def __init__(self, hands, view):
        super().__init__(hands)
        hand, entries = view
        self.hand = hand
        self.own = Alone(hands, view)
        self.firsts = sorted(min(members) for members, _ in self.own.lots[hand])
        self.letters = {entry[1:3]: entry[3:] for entry in entries if entry[0] == "read"}
        self.make_thirds()
        for entry in entries:
            if entry[0] == "see":
                card = len(self.things[hand])
                self.must(("see", hand, self.number(card), entry[1]))
            elif entry[0] != "read":
                self.must((entry[0], hand, *entry[1:]))
            else:
                for number in range(1, entry[2] + 1):
                    if (entry[1], hand, number) not in self.told:
                        self.make(entry[1], number)
                self.must(("read", hand, *entry[1:3]))
        assert self.view(hand) == view

    must = Alone.must

    def number(self, card):
        return self.firsts.index(min(self.own.lot(self.hand, card)[0]))

    def make_thirds(self):
        thirds = {}
        for (reader, _), (names, _) in self.letters.items():
            for writer, number in names:
                if writer != self.hand:
                    thirds[writer, reader] = max(number, thirds.get((writer, reader), 0))
        for writer, reader in sorted(thirds):
            for _ in range(thirds[writer, reader]):
                self.must(("write", writer, reader, ()))

    def make(self, writer, number):
        names, lines = self.letters.get((writer, number), ((), ()))
        for name in names:
            if name not in self.read[writer]:
                self.must(("read", writer, *name))
        file = self.ground_file(writer, self.hand)
        cards = [self.make_line(writer, (writer, self.hand, number, k), line, file) for k, line in enumerate(lines)]
        self.must(("write", writer, self.hand, tuple(zip(cards, [words for _, words in lines]))))

    def make_line(self, writer, slot, line, file):
        if line[0] is None:
            self.must(("see", writer, self.number(self.own.card_for[self.hand][slot]), line[1]))
            return len(self.things[writer]) - 1
        cards = sorted({self.card_for[writer][meant] for slots in self.fit(file, line[0]) for meant in slots})
        for other in cards:
            if other not in self.lot(writer, cards[0])[0]:
                self.must(("one", writer, cards[0], other))
        more = tuple(word for word in line[1] if word not in self.lot(writer, cards[0])[1])
        if more:
            self.must(("look", writer, cards[0], more))
        return cards[0]


class Together(Slow):
    """The least history of several views as point 70 tells it; wrong is None, or the entry that point 71 tells."""

    must = Alone.must

    def __init__(self, hands, views):
        super().__init__(hands)
        self.views = dict(views)
        self.alone = {view[0]: Alone(hands, view) for view in views}
        self.numbers = self.joint_things()
        self.letters = {(entry[1], hand, entry[2]): entry[3:] for hand, entries in views for entry in entries
                        if entry[0] == "read" and entry[1] not in self.views}
        self.make_outer()
        self.at = {hand: 0 for hand in self.views}
        self.ahead = []
        self.wrong = self.go()

    def joint_things(self):
        """The number of each card's thing: lots of all cards, joined till nothing more is."""
        lots = [({(hand, card) for card in cards}, set()) for hand in self.views
                for cards, _ in self.alone[hand].lots[hand]]
        for hand in self.views:
            for slot, card in self.alone[hand].card_for[hand].items():
                other = self.alone[slot[0]].card_for[slot[0]].get(slot) if slot[0] in self.views else None
                if other is not None:
                    lots = joined(lots, {(hand, card), (slot[0], other)})
        order = sorted(min(cards) for cards, _ in lots)
        return {card: order.index(min(cards)) for cards, _ in lots for card in cards}

    def make_outer(self):
        outer = [hand for hand in self.hands if hand not in self.views]
        for writer in outer:
            for reader in outer:
                numbers = [number for key, (names, _) in self.letters.items() if key[0] == reader
                           for name, number in names if name == writer]
                for _ in range(max(numbers, default=0)):
                    self.must(("write", writer, reader, ()))

    def go(self):
        """Do one entry after the other; the first that is wrong, None where all were done."""
        while any(self.at[hand] < len(self.views[hand]) for hand in self.views):
            free = [hand for hand in self.views if self.is_free(hand)]
            if not free:
                hand = next(hand for hand in self.views if self.at[hand] < len(self.views[hand]))
                return "entry", hand, self.at[hand]
            hand, entry = free[0], self.views[free[0]][self.at[free[0]]]
            if entry[0] == "read":
                key = (entry[1], hand, entry[2])
                if key not in self.told:
                    self.make_all(key)
                if self.told[key][3:] != entry[3:]:
                    return "entry", hand, self.at[hand]
                self.do(("read", hand, *entry[1:3]))
            elif entry[0] == "see":
                self.do(("see", hand, self.numbers[hand, len(self.things[hand])], entry[1]))
            else:
                assert self.can((entry[0], hand, *entry[1:]))
                self.do((entry[0], hand, *entry[1:]))
            self.at[hand] += 1
        return None

    def is_free(self, hand):
        if self.at[hand] == len(self.views[hand]):
            return False
        entry = self.views[hand][self.at[hand]]
        if entry[0] != "read":
            return True
        waits_for = [(entry[1], hand, entry[2])]
        if entry[1] not in self.views:
            waits_for = [(writer, entry[1], number) for writer, number in entry[3]]
        return all(key in self.told for key in waits_for)

    def make_all(self, key):
        """Make the letters that are written ahead of a reading, and the one that is read."""
        names = set(self.letters[key][0])
        late = [other for other in self.letters if other[0] == key[0] and other not in self.told]
        now = [other for other in late if set(self.letters[other][0]) < names
               or other[1] == key[1] and other[2] <= key[2]]
        for writer, reader, number in sorted(now, key=lambda other: (len(self.letters[other][0]), *other[1:])):
            for lesser in range(1, number):
                if (writer, reader, lesser) not in self.told:
                    assert (writer, reader, lesser) not in self.letters
                    self.must(("write", writer, reader, ()))
            self.make(writer, reader, number)
            if self.told[writer, reader, number][3:] != self.letters[writer, reader, number]:
                self.ahead += [(writer, reader, number)] * ((writer, reader, number) != key)

    def make(self, writer, reader, number):
        names, lines = self.letters[writer, reader, number]
        for name in names:
            if name not in self.read[writer]:
                self.must(("read", writer, *name))
        file = public_file(self.told, ground_of(self.told, writer, reader, names), self.kept)
        cards = [self.make_line((writer, reader, number, k), line, file) for k, line in enumerate(lines)]
        deed = ("write", writer, reader, tuple(zip(cards, [words for _, words in lines])))
        self.do(deed if self.can(deed) else (*deed[:3], ()))

    def make_line(self, slot, line, file):
        writer, reader = slot[:2]
        if line[0] is None:
            card = self.alone[reader].card_for[reader][slot]
            self.must(("see", writer, self.numbers[reader, card], line[1]))
            return len(self.things[writer]) - 1
        cards = sorted({self.card_for[writer][meant] for slots in self.fit(file, line[0]) for meant in slots})
        for other in cards:
            if other not in self.lot(writer, cards[0])[0]:
                self.must(("one", writer, cards[0], other))
        more = tuple(word for word in line[1] if word not in self.lot(writer, cards[0])[1])
        if more:
            self.must(("look", writer, cards[0], more))
        return cards[0]


def slow_wrong(hands, view):
    """view_wrong's answer of what is of a view's form, by trying all beginnings."""
    hand, entries = view
    for many in range(1, len(entries) + 1):
        try:
            Least(hands, (hand, entries[:many]))
        except (AssertionError, LookupError):
            return "entry", many - 1
    return None


def slow_holds(slow, saying):
    """Whether a saying holds in a history, by points 30 and 21."""
    kind, *rest = saying
    if kind in ("wrote", "read"):
        writer, reader, number = rest
        return (writer, reader, number) in slow.told and (kind == "wrote" or (writer, number) in slow.read[reader])
    if kind == "both":
        return all([slow_holds(slow, part) for part in rest])
    if kind == "either":
        return any([slow_holds(slow, part) for part in rest])
    if kind == "knows":
        return slow_holds(Least(slow.hands, slow.view(rest[0])), rest[1])
    slots = rest if kind == "one" else rest[:1]
    if not all(slot[:3] in slow.told and slot[3] < len(slow.told[slot[:3]][4]) for slot in slots):
        return False
    things = [slow.things[slot[0]][slow.card_for[slot[0]][slot]] for slot in slots]
    return things[0] == things[1] if kind == "one" else rest[1] in slow.true[things[0]]


WORDS = ("big", "old", "red", "tall", "wet")


def some_words(chance, pool, most=3):
    return tuple(sorted(chance.sample(sorted(pool), min(len(pool), chance.randint(0, most)))))


def some_lines(chance, slow, hand, other):
    """Lines by chance, mostly of what the two have spoken of."""
    spoken = {slow.card_for[hand][slot] for slots, _ in slow.ground_file(hand, other) for slot in slots}
    lots = [lot for lot in slow.lots[hand] if lot[0] & spoken or chance.random() < 0.15] or slow.lots[hand]
    chosen = chance.sample(lots, min(len(lots), chance.choice((0, 1, 1, 2, 2, 3, 4))))
    said = [tuple(sorted(words)) if chance.random() < 0.6 else some_words(chance, words) for _, words in chosen]
    return tuple((chance.choice(sorted(lot[0])), words) for lot, words in zip(chosen, said))


def some_number(chance, slow, writer, reader):
    """The number of a letter, mostly of one that isn't read yet."""
    numbers = [key[2] for key in slow.told if key[:2] == (writer, reader)]
    late = [number for number in numbers if (writer, number) not in slow.read[reader]]
    return chance.choice(late if late and chance.random() < 0.9 else numbers + [len(numbers) + 1])


def some_deed(chance, slow, things):
    """A deed by chance, which can perhaps be done; things are the words that may be seen of each."""
    hand = chance.choice(slow.hands)
    other = chance.choice([name for name in slow.hands if name != hand])
    many = len(slow.things[hand])
    kind = chance.choice(("see", "look", "one", "one") + ("write",) * 5 + ("read",) * 8)
    if kind == "see" and many > 2 and chance.random() < 0.9:
        kind = "write"
    if kind == "see":
        thing = chance.randrange(len(things))
        return kind, hand, thing, things[thing] if chance.random() < 0.6 else some_words(chance, things[thing])
    if kind == "look":
        card = chance.randrange(many + 1)
        return kind, hand, card, some_words(chance, things[slow.things[hand][card]] if card < many else (), 2)
    if kind == "one":
        card = chance.randrange(many + 1)
        same = [other for other in range(many) if card < many and slow.things[hand][other] == slow.things[hand][card]]
        return kind, hand, card, chance.choice(same or [many])
    if kind == "write":
        return kind, hand, other, some_lines(chance, slow, hand, other)
    return kind, hand, other, some_number(chance, slow, other, hand)


def by_chance(seed, many=40, hands=None):
    """A Slow with a history of so many deeds, the same for the same seed."""
    chance = Random(seed)
    slow = Slow(hands or ("ann", "bob", "cy", "dan", "eve")[:chance.choice((2, 2, 2, 2, 2, 3, 3, 4, 5))])
    words = WORDS[:chance.choice((3, 4, 5, 5, 5))]
    things = [some_words(chance, words, 4) for _ in range(chance.randint(2, 6))]
    while len(slow.deeds) < many:
        deed = some_deed(chance, slow, things)
        if slow.can(deed):
            slow.do(deed)
    return slow


def some_saying(chance, slow, deep=4):
    """A saying by chance, mostly of what is there."""
    around = ("both", "either", "knows", "knows") if deep > 1 else ()
    kind = chance.choice(("wrote", "read", "one", "one", "word", "word") + around)
    letters = sorted(slow.told) + [("ann", "ann", 1), ("bob", "ann", 99)]
    slots = [slot for hand in slow.hands for slot in slow.card_for[hand] if slot[0] == hand] + [("ann", "bob", 1, 7)]
    if kind in ("wrote", "read"):
        return (kind, *chance.choice(letters))
    if kind == "one":
        slot = chance.choice(slots)
        same = [other for other in slots[:-1] if slow_holds(slow, ("one", slot, other))]
        return kind, slot, chance.choice(same if same and chance.random() < 0.8 else slots)
    if kind == "word":
        return kind, chance.choice(slots), chance.choice(WORDS)
    if kind == "knows":
        return kind, chance.choice(slow.hands), some_saying(chance, slow, deep - 1)
    return kind, some_saying(chance, slow, deep - 1), some_saying(chance, slow, deep - 1)


def bent(chance, slow, view):
    """A view, bent once or twice: entries left out, put elsewhere or anew, letters told otherwise."""
    hand, entries = view[0], list(view[1])
    for _ in range(chance.randint(1, 2)):
        reads = [k for k, entry in enumerate(entries) if entry[0] == "read"]
        at = chance.randrange(len(entries) + 1)
        kind = chance.choice(("out", "elsewhere", "again", "own") + ("letter",) * 6)
        if kind == "own":
            card = chance.randint(0, 4)
            entries.insert(at, chance.choice((("look", card, ("big",)), ("one", card, chance.randint(0, 4)),
                                              ("write", chance.choice(slow.hands), ((card, ()),)))))
        elif kind == "letter" and reads:
            k = chance.choice(reads)
            entries[k] = bent_letter(chance, slow, entries[k])
        elif kind == "again" and entries:
            entries.insert(at, chance.choice(entries))
        elif entries:
            moved = entries.pop(chance.randrange(len(entries)))
            if kind == "elsewhere":
                entries.insert(chance.randint(0, len(entries)), moved)
    return hand, tuple(entries)


def bent_names(chance, slow, view, inner):
    """A view in which the names of one letter of an outer hand tell of one letter more or less."""
    hand, entries = view
    read = [entry for entry in entries if entry[0] == "read" and entry[1] not in inner and entry[3]]
    if not read:
        return view
    bent = chance.choice(read)
    names = {*bent[3]} ^ {chance.choice(sorted({*bent[3], (chance.choice(slow.hands), chance.randint(1, 4))}))}
    other = (*bent[:3], tuple(sorted(names)), bent[4])
    return hand, tuple(other if entry == bent else entry for entry in entries)


def bent_letter(chance, slow, entry):
    """An entry that reads a letter, with its number, names or one of its lines told otherwise."""
    kind, writer, number, names, lines = entry
    what = chance.choice(("number", "names", "name", "name", "words", "line"))
    if what == "number":
        number = chance.randint(1, 6)
    elif what == "names":
        names = {*names} ^ {chance.choice(sorted({*names, (chance.choice(slow.hands), chance.randint(1, 6))}))}
    elif lines:
        at = chance.randrange(len(lines))
        name, words = lines[at]
        if what == "name":
            name = chance.choice((None, (), some_words(chance, WORDS, 2), some_words(chance, WORDS, 2)))
        elif what == "words":
            words = some_words(chance, WORDS)
        lines = lines[:at] + ((name, words),) + lines[at + (what != "line"):]
    return kind, writer, number, tuple(sorted(names)), lines
