"""Desks: commands, told as texts, about a hall, claims and a program."""

from mostcrowds.always import sure
from mostcrowds.claims import Claim
from mostcrowds.crowds import Crowd
from mostcrowds.deciding import follows, possible
from mostcrowds.errors import InvalidCommand, InvalidText
from mostcrowds.groups import Group
from mostcrowds.halls import Hall
from mostcrowds.programs import Program

# What stands between the lines of a program.
BETWEEN = " ; "


def set_crowd(desk, text):
    """Sets the hall's crowd: the number of its members."""
    crowd = read_crowd(text)
    desk.hall.gather(crowd)
    return str(crowd.size)


def count_members(desk, text):
    """The number of members in a group."""
    return str(desk.hall[read_group(text)])


def ask(desk, text):
    """Whether a claim holds in the crowd."""
    return yes_or_no(desk.hall.holds(read_claim(text)))


def know(desk, text):
    """Adds a claim that is possible together with the others: the number of claims."""
    claims = (*desk.claims, read_claim(text))
    if not possible(claims):
        return yes_or_no(False)
    desk.claims = claims
    return str(len(claims))


def ask_for_all(desk, text):
    """Whether a claim follows from the claims."""
    return yes_or_no(follows(desk.claims, read_claim(text)))


def set_program(desk, text):
    """Sets the program: the number of its rows."""
    program = Program.read("\n".join(text.split(BETWEEN)))
    desk.program = program
    return str(len(program))


def do_program(desk, text):
    """Does the program: its words."""
    words = desk.hall.do(desk.program)
    return " ".join(words) if words else "-"


def ask_for_end(desk, text):
    """Whether a claim holds wherever the program ends or stops."""
    return yes_or_no(sure(desk.program, read_claim(text), given=desk.claims))


def undo(desk, text):
    """Takes back the last deed of the hall: whether there was one."""
    return yes_or_no(desk.hall.undo())


# What is done for each first word; with the words behind it, as one text.
ACTIONS = {
    "crowd": set_crowd,
    "count": count_members,
    "is": ask,
    "know": know,
    "surely": ask_for_all,
    "program": set_program,
    "do": do_program,
    "sure": ask_for_end,
    "undo": undo,
}

# The words that stand alone.
ALONE = ("do", "undo")


class Desk:
    """Keeps a hall, claims and a program, and does commands."""

    def __init__(self):
        self.hall = Hall()
        self.claims = ()
        self.program = Program()

    def say(self, command):
        """Does a command: what there is to say about it, as a text."""
        if not isinstance(command, str) or "\n" in command or "" in command.split(" "):
            raise InvalidCommand()
        word, _, text = command.partition(" ")
        if word not in ACTIONS or (text == "") != (word in ALONE):
            raise InvalidCommand()
        action = ACTIONS[word]
        return action(self, text)

    def __len__(self):
        return len(self.claims)


def yes_or_no(answer):
    """The word for an answer."""
    return "yes" if answer else "no"


def read_crowd(text):
    """The crowd in a command."""
    try:
        return Crowd.read(text)
    except InvalidText:
        raise InvalidCommand() from None


def read_group(text):
    """The group in a command."""
    try:
        return Group.read(text)
    except InvalidText:
        raise InvalidCommand() from None


def read_claim(text):
    """The claim in a command."""
    try:
        return Claim.read(text)
    except InvalidText:
        raise InvalidCommand() from None
