"""Programs: their texts, read line by line."""

from everymoment.errors import BadLine, BadProgram, NoPart, NoProgram
from everymoment.kinds import is_between

MOST_LINES = 150
MOST_FIELDS = 5
MOST_DOORS = 3
MOST_PARTS = 12
MOST_PARAMETERS = 3
MOST_DEEP = 6
MOST_SIGNS = 6
MOST_FIGURES = 4

LETTERS = "abcdefghijklmnopqrstuvwxyz"
FIGURES = "0123456789"

# For each sign a word must stand behind the first one: X is a local or a door, V one of these or an integer,
# F a field. As no line that stands has more than six words, the limit of eight needs no test of its own.
FORMS = {
    "new": "X",
    "get": "XVF",
    "set": "VFV",
    "put": "XV",
    "add": "XVV",
    "less": "XVV",
    "same": "XVV",
    "kind": "XV",
    "tell": "V",
    "if": "V",
    "while": "V",
    "else": "",
    "end": "",
}
# The words that are set in lines, but have no form of a fixed length.
OTHER_WORDS = ("fields", "doors", "part", "call")


def is_name(word):
    """Whether a word is a NAME."""
    if not 1 <= len(word) <= MOST_SIGNS or word[0] not in LETTERS:
        return False
    if word in FORMS or word in OTHER_WORDS:
        return False
    return all([sign in LETTERS or sign in FIGURES for sign in word])


def is_number_word(word):
    """Whether a word is a NUMBER as Python writes it."""
    figures = word[1:] if word.startswith("-") else word
    if not 1 <= len(figures) <= MOST_FIGURES or not all([sign in FIGURES for sign in figures]):
        return False
    # Python writes neither -0 nor noughts ahead.
    return str(int(word)) == word


class Reading:
    """What the lines taken so far have set. A line that cannot stand behind them ends the reading."""

    def __init__(self):
        # Each name used so far, in whichever part, with what it is: field, door, part or local.
        self.roles = {}
        self.parameters = {}
        self.firsts = {}
        self.part = None
        # The open blocks: the word that may yet skip to behind the end, and its line.
        self.blocks = []
        # From a line to the one that is come to instead of the next one: from if and while if their V is 0,
        # from else and the end of a while always.
        self.jumps = {}

    def take(self, number, words):
        """Takes the line with this number, and tells whether it can stand."""
        if number == 1:
            return words[0] == "fields" and self.take_cells(words[1:], "field", MOST_FIELDS)
        if number == 2:
            return words[0] == "doors" and self.take_cells(words[1:], "door", MOST_DOORS)
        if words[0] == "part":
            return self.take_part(number, words[1:])
        return self.part is not None and self.take_statement(number, words[0], words[1:])

    def take_cells(self, names, role, most):
        """Takes the names of all fields, or of all doors."""
        return 1 <= len(names) <= most and all([self.take_new(name, role) for name in names])

    def take_new(self, word, role):
        """Takes a name that nothing ahead may bear."""
        if not is_name(word) or word in self.roles:
            return False
        self.roles[word] = role
        return True

    def take_local(self, word):
        """Takes a name that may be that of a local ahead, but of nothing else."""
        return is_name(word) and self.roles.setdefault(word, "local") == "local"

    def take_part(self, number, words):
        """Takes the first line of a part: its name, and its parameters."""
        if self.blocks or len(self.parameters) == MOST_PARTS or not 1 <= len(words) <= 1 + MOST_PARAMETERS:
            return False
        name = words[0]
        parameters = words[1:]
        if len(set(parameters)) < len(parameters) or not self.take_new(name, "part"):
            return False
        self.part = name
        self.parameters[name] = tuple(parameters)
        self.firsts[name] = number
        return all([self.take_local(word) for word in parameters])

    def take_statement(self, number, word, operands):
        """Takes a statement of the part that was begun last."""
        if word == "call":
            return self.take_call(operands)
        if word not in FORMS or not self.take_operands(operands, FORMS[word]):
            return False
        if word in ("if", "while"):
            return self.begin_block(number, word)
        if word == "else":
            return self.turn_block(number)
        if word == "end":
            return self.end_block(number)
        return True

    def take_call(self, words):
        """Takes what stands behind call: a part that was begun ahead of this one, and a V for each parameter."""
        if not words or words[0] not in self.parameters or words[0] == self.part:
            return False
        return self.take_operands(words[1:], "V" * len(self.parameters[words[0]]))

    def take_operands(self, words, form):
        """Takes words that must be as the signs of a form tell."""
        return len(words) == len(form) and all([self.take_operand(word, sign) for word, sign in zip(words, form)])

    def take_operand(self, word, sign):
        """Takes a word that must be as a sign of a form tells."""
        if sign == "F":
            return self.roles.get(word) == "field"
        if sign == "V" and is_number_word(word):
            return True
        return self.roles.get(word) == "door" or self.take_local(word)

    def begin_block(self, number, word):
        """Takes an if or a while."""
        if len(self.blocks) == MOST_DEEP:
            return False
        self.blocks.append((word, number))
        return True

    def turn_block(self, number):
        """Takes an else. From then on its if is no if any more, so that no second else can come."""
        if not self.blocks or self.blocks[-1][0] != "if":
            return False
        _, begun = self.blocks.pop()
        self.jumps[begun] = number + 1
        self.blocks.append(("else", number))
        return True

    def end_block(self, number):
        """Takes an end."""
        if not self.blocks:
            return False
        word, begun = self.blocks.pop()
        self.jumps[begun] = number + 1
        if word == "while":
            self.jumps[number] = begun
        return True

    def named(self, role):
        """The names with this role, in the sequence in which they were taken."""
        return tuple([name for name, held in self.roles.items() if held == role])


def read_lines(lines):
    """The Reading of all lines; BadProgram(number) at the first one that cannot stand."""
    reading = Reading()
    for at, line in enumerate(lines):
        if at == MOST_LINES or not reading.take(at + 1, line.split(" ")):
            raise BadProgram(at + 1)
    if reading.blocks or reading.part is None:
        raise BadProgram(len(lines) + 1)
    return reading


def part_places(firsts, many):
    """For each part the numbers of its first line and of its last one, in a text of so many lines."""
    ends = [first - 1 for first in firsts.values()][1:] + [many]
    return {name: (first, end) for (name, first), end in zip(firsts.items(), ends)}


class Program:
    """A program, by its text. Programs are equal if their texts are."""

    def __init__(self, text):
        if not isinstance(text, str):
            raise BadProgram(0)
        lines = text.split("\n")
        reading = read_lines(lines)
        self.text = text
        self.fields = reading.named("field")
        self.doors = reading.named("door")
        self.parts = tuple([(name, len(words)) for name, words in reading.parameters.items()])
        # By these the machines go.
        self.words = tuple([tuple(line.split(" ")) for line in lines])
        self.parameters = reading.parameters
        self.jumps = reading.jumps
        self.places = part_places(reading.firsts, len(lines))

    def __eq__(self, other):
        return isinstance(other, Program) and self.text == other.text

    def line(self, number):
        """The line with this number; BadLine(number) if there is none."""
        if not is_between(number, 1, len(self.words)):
            raise BadLine(number)
        return self.text.split("\n")[number - 1]

    def part_at(self, name):
        """(number of the first line, number of the last one) of a part; NoPart(name) if there is none."""
        if not isinstance(name, str) or name not in self.places:
            raise NoPart(name)
        return self.places[name]


def check_program(value):
    """NoProgram(value) for what is no PROGRAM."""
    if not isinstance(value, Program):
        raise NoProgram(value)
