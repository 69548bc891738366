"""Journals: the text of all that a bench did, which can be read back; and the texts of VALUES and deeds."""

from everymoment.benches import Bench, deeds_of, first_spare
from everymoment.errors import BadJournal, BadProgram, BadSpare, MomentError
from everymoment.texts import FIGURES, Program


def cell_text(value):
    """The text of a VALUE, or of a spare."""
    if value is None:
        return "-"
    return f"record {value[1]}" if isinstance(value, tuple) else str(value)


def is_integer_word(word):
    """Whether a word is an integer as Python writes it."""
    figures = word[1:] if word.startswith("-") else word
    if not figures or not all([sign in FIGURES for sign in figures]):
        return False
    return word == "0" or figures[0] != "0"


def integers_of(words):
    """The tuple of the integers that words are, None if one of them is none."""
    return tuple([int(word) for word in words]) if all([is_integer_word(word) for word in words]) else None


def words_of(line):
    """The words of a line, none at all if one of them is empty."""
    words = line.split(" ")
    return [] if "" in words else words


def spare_of(word):
    """(spare,) for a word that is the text of an integer or of None, else None."""
    return (None,) if word == "-" else integers_of([word])


def deed_of(words):
    """The deed that the words of a line tell, None if they have no such form."""
    if words[:1] == ["call"] and len(words) > 1:
        numbers = integers_of(words[2:])
        return None if numbers is None else ("call", words[1], numbers)
    if words[:1] == ["let_go"]:
        moments = integers_of(words[1:])
        return None if moments is None else ("let_go", moments)
    if words[:1] == ["respare"] and len(words) == 2:
        spares = spare_of(words[1])
        return None if spares is None else ("respare", spares[0])
    return None


def do_deed(bench, deed):
    """Does a deed at a bench, and returns the VALUES told; what the bench raises."""
    if deed[0] == "call":
        return bench.call(deed[1], deed[2])
    if deed[0] == "let_go":
        bench.let_go(deed[1])
    else:
        bench.respare(deed[1])
    return ()


def deed_line(deed):
    """The line of a deed."""
    if deed[0] == "call":
        return " ".join(["call", deed[1]] + [str(number) for number in deed[2]])
    if deed[0] == "let_go":
        return " ".join(["let_go"] + [str(moment) for moment in deed[1]])
    return "respare " + cell_text(deed[1])


def journal(bench):
    """The text of a bench: its program, the spare with which it was made, and the deeds that stand."""
    lines = [bench.program.text, "spare " + cell_text(first_spare(bench)), "deeds"]
    return "\n".join(lines + [deed_line(deed) for deed in deeds_of(bench)])


def bench_of(lines):
    """The Bench of the lines ahead of the line deeds; BadJournal."""
    if len(lines) < 2:
        raise BadJournal(len(lines) + 1)
    text = "\n".join(lines[:-1])
    try:
        Program(text)
    except BadProgram as error:
        raise BadJournal(error.value) from None
    words = words_of(lines[-1])
    spares = spare_of(words[1]) if len(words) == 2 and words[0] == "spare" else None
    if spares is None:
        raise BadJournal(len(lines))
    try:
        return Bench(text, spares[0])
    except BadSpare:
        raise BadJournal(len(lines)) from None


def read_journal(text):
    """The Bench on which all was done that a text tells; BadJournal."""
    if not isinstance(text, str):
        raise BadJournal(0)
    lines = text.split("\n")
    if "deeds" not in lines:
        raise BadJournal(len(lines) + 1)
    at = lines.index("deeds")
    bench = bench_of(lines[:at])
    for number, line in enumerate(lines[at + 1:], start=at + 2):
        deed = deed_of(words_of(line))
        if deed is None:
            raise BadJournal(number)
        try:
            do_deed(bench, deed)
        except MomentError:
            raise BadJournal(number) from None
    return bench
