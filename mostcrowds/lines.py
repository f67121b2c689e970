"""Lines: the text of a program, read line by line."""

from mostcrowds.claims import Claim
from mostcrowds.errors import InvalidRow, InvalidText
from mostcrowds.groups import Group
from mostcrowds.rows import If, Let, Say, Stop, While

IF = "if"
ELSE = "else"
WHILE = "while"
END = "end"
SAY = "say"
STOP = "stop"


class Block:
    """A block that is not ended yet: the word of its last line that is not one of its rows, its claim and its rows."""

    def __init__(self, word, claim):
        self.word = word
        self.claim = claim
        self.rows = []
        self.others = []

    def put_in(self, row):
        """Puts a row behind those that are there."""
        if self.word == ELSE:
            self.others.append(row)
        else:
            self.rows.append(row)

    def ended(self):
        """The row that the block is."""
        if self.word == WHILE:
            return While(self.claim, self.rows)
        return If(self.claim, self.rows, self.others)


def read_rows(text):
    """The rows of the program with a text."""
    lines = text.split("\n") if text else []
    # The first block is the program itself.
    blocks = [Block("", None)]
    for at, line in enumerate(lines):
        read_line(blocks, line, at)
    if len(blocks) > 1:
        raise InvalidText(len(lines))
    return blocks[0].rows


def read_line(blocks, line, at):
    """Does with the blocks that are not ended yet what the line with a number says."""
    block = blocks[-1]
    word, _, rest = line.partition(" ")
    if line == ELSE:
        if block.word != IF:
            raise InvalidText(at)
        block.word = ELSE
    elif line == END:
        if len(blocks) == 1:
            raise InvalidText(at)
        blocks.pop()
        blocks[-1].put_in(block.ended())
    elif word in (IF, WHILE):
        blocks.append(Block(word, read_claim(rest, at)))
    else:
        block.put_in(read_row(line, at))


def read_claim(text, at):
    """The claim in the line with a number."""
    try:
        return Claim.read(text)
    except InvalidText:
        raise InvalidText(at) from None


def read_row(line, at):
    """The row whose text is the line with a number."""
    words = line.split(" ")
    try:
        if words[1:2] == ["="]:
            return Let(words[0], Group.read(" ".join(words[2:])))
        if words[0] == SAY and len(words) == 2:
            return Say(words[1])
    except (InvalidRow, InvalidText):
        raise InvalidText(at) from None
    if line != STOP:
        raise InvalidText(at)
    return Stop()
