"""A desk: lines of words are done at a bench, and answered by texts."""

from everymoment.asking import history
from everymoment.charges import space
from everymoment.errors import BadTask
from everymoment.journals import cell_text, deed_of, do_deed, integers_of, read_journal, words_of
from everymoment.leaving import needed_copies

# A task is what a line tells: its first word, and behind it what is handed in.


def asked_of(words):
    """The task that the words of a line tell which is no deed, None if they have no such form."""
    word = words[0]
    if word in ("undo", "redo", "copies"):
        return (word,) if len(words) == 1 else None
    if word == "needed":
        moments = integers_of(words[1:])
        return None if moments is None else (word, moments)
    numbers = integers_of(words[1:2])
    if not numbers:
        return None
    if word == "shape" and len(words) == 2:
        return (word, numbers[0])
    if word == "history" and len(words) == 3:
        return (word, numbers[0], words[2])
    if word == "at" and len(words) > 2:
        return (word, numbers[0], tuple(words[2:]))
    return None


def task_of(line):
    """The task that any value tells, None if it tells none."""
    if not isinstance(line, str) or "\n" in line:
        return None
    words = words_of(line)
    if not words:
        return None
    deed = deed_of(words)
    return asked_of(words) if deed is None else deed


def cells_text(values):
    """The texts of VALUES, in one text."""
    return ", ".join([cell_text(value) for value in values])


# Each of these does one line of the table in the document at a bench, and returns the answer.


def say_call(bench, task):
    return " ; ".join([cell_text(value) for value in do_deed(bench, task)]) or "none"


def say_deed(bench, task):
    do_deed(bench, task)
    return "done"


def say_undo(bench, task):
    bench.undo()
    return "done"


def say_redo(bench, task):
    bench.redo()
    return "done"


def say_at(bench, task):
    return cell_text(bench.kept_now().read_at(task[1], task[2]))


def say_shape(bench, task):
    doors, rows = bench.kept_now().shape_at(task[1])
    return " ; ".join([cells_text(values) for values in (doors,) + rows])


def say_copies(bench, task):
    copies, lines = space(bench.kept_now())
    return f"{copies} {lines}"


def say_history(bench, task):
    pairs = history(bench.kept_now(), task[1], task[2])
    return " ; ".join([f"{moment} {cell_text(value)}" for moment, value in pairs])


def say_needed(bench, task):
    return " ".join([str(number) for number in needed_copies(bench.kept_now(), task[1])]) or "none"


ANSWERS = {
    "call": say_call,
    "let_go": say_deed,
    "respare": say_deed,
    "undo": say_undo,
    "redo": say_redo,
    "at": say_at,
    "shape": say_shape,
    "copies": say_copies,
    "history": say_history,
    "needed": say_needed,
}


class Desk:
    """A desk with a bench, at which its lines are done."""

    def __init__(self, text):
        self.bench = read_journal(text)

    def say(self, line):
        """Does a line, and returns the answer; BadTask, and what the bench or the function raises."""
        task = task_of(line)
        if task is None:
            raise BadTask(line)
        answer = ANSWERS[task[0]]
        return answer(self.bench, task)
