"""Claims: what is said of the value of a tally."""

from mostcrowds.checks import is_count, is_integer
from mostcrowds.errors import InvalidClaim, InvalidText
from mostcrowds.kinds import names_of
from mostcrowds.scaling import lowest
from mostcrowds.tallies import Tally, read_terms, weights

LEAST = "least"
MORE = "more"
EVEN = "even"
WORDS = ("least", "more", "even")


class Claim:
    """That a tally is at least 0, more than 0, or 0."""

    def __init__(self, word, tally):
        if word not in WORDS:
            raise InvalidClaim("word")
        if not isinstance(tally, Tally):
            raise InvalidClaim("tally")
        self.word = word
        self.tally = tally
        self.names = tally.names

    @classmethod
    def share(cls, group, other, over, under):
        """That at least so big a part of the members of a group are in another one."""
        if not is_count(over):
            raise InvalidClaim("over")
        if not is_integer(under) or under < 1:
            raise InvalidClaim("under")
        return cls(LEAST, Tally([(under, group & other), (-over, group)]))

    @classmethod
    def more_in(cls, group, other):
        """That more members are in a group than in another one."""
        return cls(MORE, Tally([(1, group), (-1, other)]))

    @classmethod
    def inside(cls, group, other):
        """That all members of a group are in another one."""
        return cls(EVEN, Tally([(1, group - other)]))

    @classmethod
    def some(cls, group):
        """That somebody is in a group."""
        return cls(MORE, Tally([(1, group)]))

    @classmethod
    def read(cls, text):
        """The claim with a text."""
        words = text.split(" ")
        if words[0] not in WORDS:
            raise InvalidText(0)
        return cls(words[0], Tally(read_terms(words, 1)))

    def holds(self, crowd):
        """Whether the claim holds in a crowd."""
        return is_kept(self.word, self.tally.on(crowd))

    def put(self, groups):
        """The claim with other groups in the place of names, all at once."""
        return Claim(self.word, Tally([(number, group.put(groups)) for number, group in self.tally.terms]))

    def contrary(self):
        """The claim that holds exactly where this one does not."""
        if self.word == EVEN:
            raise InvalidClaim(EVEN)
        return Claim(MORE if self.word == LEAST else LEAST, -self.tally)

    def __eq__(self, other):
        return isinstance(other, Claim) and says_the_same(self, other)

    def __str__(self):
        return f"{self.word} {self.tally}"


def is_kept(word, value):
    """Whether a tally with such a value is what the word of a claim says."""
    if word == LEAST:
        return value >= 0
    if word == MORE:
        return value > 0
    return value == 0


def says_the_same(claim, other):
    """Whether claims have the same word and weights with the same proportions."""
    if claim.word != other.word:
        return False
    names = names_of([claim, other])
    mine = lowest(weights(claim.tally, names))
    others = lowest(weights(other.tally, names))
    return mine == others or (claim.word == EVEN and mine == [-weight for weight in others])
