"""Lots: what is held to be one, and the words of each lot."""


class Lots:
    """Places, numbered from 0 as they come, in lots, each with words.

    A hand's file has its cards as places, a public file its slots, rising.
    """

    def __init__(self):
        self.heads = []
        self.members = {}
        self.words = {}

    def new(self, words):
        """A new place, in a lot of its own."""
        place = len(self.heads)
        self.heads.append(place)
        self.members[place] = [place]
        self.words[place] = {word: True for word in words}
        return place

    def has(self, place):
        """Whether a whole number from 0 on is a place."""
        return place < len(self.heads)

    def head(self, place):
        """The least place of that one's lot: two are one where their heads are the same."""
        return self.heads[place]

    def unknown(self, place, words):
        """Those of the words that aren't the lot's."""
        known = self.words[self.heads[place]]
        return tuple([word for word in words if word not in known])

    def learn(self, place, words):
        """More words of that place's lot."""
        known = self.words[self.heads[place]]
        for word in words:
            known[word] = True

    def unite(self, place, other):
        """The two places' lots become one, with both's words."""
        head = min(self.heads[place], self.heads[other])
        gone = max(self.heads[place], self.heads[other])
        if head == gone:
            return
        for member in self.members[gone]:
            self.heads[member] = head
        self.members[head] = self.members[head] + self.members[gone]
        self.learn(head, list(self.words[gone]))
        del self.members[gone]
        del self.words[gone]

    def listed(self):
        """The lots by their heads: tuples (places, words) of two rising tuples."""
        return [(tuple(sorted(self.members[head])), tuple(sorted(self.words[head]))) for head in sorted(self.members)]
