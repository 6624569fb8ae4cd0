"""Lots: what is held to be one, and the words of each lot."""


class Lots:
    """Places, numbered from 0 as they come, in lots, each with words.

    A hand's file has its cards as places, a public file its slots, rising.
    """

    def __init__(self):
        self.heads = []
        self.members = {}
        self.words = {}

    def new(self, words):
        """A new place, in a lot of its own."""
        place = len(self.heads)
        self.heads.append(place)
        self.members[place] = [place]
        self.words[place] = {word: True for word in words}
        return place

    def has(self, place):
        """Whether a whole number from 0 on is a place."""
        return place < len(self.heads)

    def has_all(self, lines):
        """Whether the places of all lines, tuples (place, words), are there."""
        return all([self.has(place) for place, words in lines])

    def may_stand(self, lines):
        """Whether the lines' places, which are there, are in unlike lots, and their words those lots'."""
        heads = [self.heads[place] for place, words in lines]
        if len(set(heads)) < len(heads):
            return False
        return not any([self.unknown(place, words) for place, words in lines])

    def head(self, place):
        """The least place of that one's lot: two are one where their heads are the same."""
        return self.heads[place]

    def lot(self, place):
        """The places, rising, of that one's lot."""
        return sorted(self.members[self.heads[place]])

    def known(self, place):
        """The words of that place's lot."""
        return tuple(self.words[self.heads[place]])

    def unknown(self, place, words):
        """Those of the words that aren't the lot's."""
        known = self.words[self.heads[place]]
        return tuple([word for word in words if word not in known])

    def learn(self, place, words):
        """More words of that place's lot."""
        known = self.words[self.heads[place]]
        for word in words:
            known[word] = True

    def unite(self, place, other):
        """The two places' lots become one, with both's words."""
        head = min(self.heads[place], self.heads[other])
        gone = max(self.heads[place], self.heads[other])
        if head == gone:
            return
        for member in self.members[gone]:
            self.heads[member] = head
        self.members[head] = self.members[head] + self.members[gone]
        self.learn(head, list(self.words[gone]))
        del self.members[gone]
        del self.words[gone]

    def copy(self):
        """The same places in lots of their own."""
        twin = Lots()
        twin.heads = list(self.heads)
        twin.members = {head: list(self.members[head]) for head in self.members}
        twin.words = {head: dict(self.words[head]) for head in self.words}
        return twin

    def listed(self):
        """The lots by their heads: tuples (places, words) of two rising tuples."""
        return [(tuple(sorted(self.members[head])), tuple(sorted(self.words[head]))) for head in sorted(self.members)]


def lots_of(members, words, joins):
    """The lots of members, which rise and each have words: those that stand in a join together are one."""
    places = {member: place for place, member in enumerate(members)}
    lots = Lots()
    for some in words:
        lots.new(some)
    for join in joins:
        for member in join[1:]:
            lots.unite(places[join[0]], places[member])
    return [(tuple([members[place] for place in lot]), said) for lot, said in lots.listed()]
