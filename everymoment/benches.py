"""A bench: a machine that remembers, the deeds of which can be taken back."""

from everymoment.errors import LetGo, NoBlock, NothingToRedo, NothingToUndo
from everymoment.keeping import Kept, kept_of
from everymoment.kinds import check_spare, is_integer
from everymoment.texts import Program

# A deed is ("call", name, numbers), ("let_go", moments) or ("respare", spare).


class Block:
    """What a bench was as a block of it was entered."""

    def __init__(self, bench):
        self.bench = bench
        # None, not False, until keep is called: what ends a block may ask it by "is None" alone.
        self.keep_asked = None

    def __enter__(self):
        bench = self.bench
        self.outer = bench._block
        self.deeds = bench.deeds
        self.spare = bench.spare
        self.moment = bench.moment
        self.wanted = bench.wanted
        self._deeds_done = bench._deeds_done
        self._kepts = bench._kepts
        self._undone = bench._undone
        bench._block = self
        return bench

    def __exit__(self, kind, value, trace):
        bench = self.bench
        bench._block = self.outer
        if kind is None and self.keep_asked is not None:
            return
        bench.deeds = self.deeds
        bench.spare = self.spare
        bench.moment = self.moment
        bench.wanted = self.wanted
        bench._deeds_done = self._deeds_done
        bench._kepts = self._kepts
        bench._undone = self._undone


class Bench:
    """A Kept with the deeds that were done with it. Benches are equal if their journals are."""

    def __init__(self, text, spare):
        self.program = Program(text)
        kept = Kept(self.program, spare)
        # The innermost block that the bench is in.
        self._block = None
        # The Kept as it was at first, and behind each deed that stands: none of them is ever changed.
        self._stand((), (kept,), ())

    def __len__(self):
        return len(self._kepts[-1].calls)

    def __contains__(self, value):
        return is_integer(value) and value in self.wanted

    def __eq__(self, other):
        return (isinstance(other, Bench) and self.program == other.program
                and self._kepts[0].spare == other._kepts[0].spare and self._deeds_done == other._deeds_done)

    def _stand(self, deeds, kepts, undone):
        """Stands where these deeds led, kepts being the Kept at first and behind each; undone can be done again.

        undone has (deed, the Kept behind it), the one that was taken back first ahead.
        """
        self._deeds_done = deeds
        self._kepts = kepts
        self._undone = undone
        self.deeds = len(deeds)
        self.spare = kepts[-1].spare
        self.moment = kepts[-1].moment
        self.wanted = kepts[-1].wanted

    def _add(self, deed, kept):
        """Stands behind one more deed, which led to this Kept."""
        self._stand(self._deeds_done + (deed,), self._kepts + (kept,), ())

    def call(self, name, numbers):
        """Does a part, and returns the VALUES told; NoPart, BadNumbers, Fault."""
        kept = self.kept_now()
        told = kept.call(name, numbers)
        self._add(("call", name, numbers), kept)
        return told

    def let_go(self, moments):
        """Lets go of all that is read neither at these moments nor at the present one; BadMoments."""
        kept = self.kept_now()
        kept.let_go(moments)
        self._add(("let_go", moments), kept)

    def respare(self, spare):
        """Does all calls anew with so many spare lines; BadSpare, LetGo."""
        check_spare(spare)
        if "let_go" in [deed[0] for deed in self._deeds_done]:
            raise LetGo(None)
        self._add(("respare", spare), kept_of(self.program, spare, self._kepts[-1].calls))

    def kept_now(self):
        """A Kept that stands as the one of the bench does, by itself."""
        return self._kepts[-1].copy()

    def undo(self):
        """Takes the last deed back; NothingToUndo."""
        if not self._deeds_done:
            raise NothingToUndo(None)
        undone = self._undone + ((self._deeds_done[-1], self._kepts[-1]),)
        self._stand(self._deeds_done[:-1], self._kepts[:-1], undone)

    def redo(self):
        """Does the deed again that was taken back last; NothingToRedo."""
        if not self._undone:
            raise NothingToRedo(None)
        deed, kept = self._undone[-1]
        self._stand(self._deeds_done + (deed,), self._kepts + (kept,), self._undone[:-1])

    def block(self):
        """A block: behind it the bench is as it was ahead, unless keep was called in it and no error left it."""
        return Block(self)

    def keep(self):
        """Has what is done in the innermost block stay; NoBlock."""
        innermost = self._block
        if innermost is None:
            raise NoBlock(None)
        innermost.keep_asked = True

    def tried(self, look, *, keep=False):
        """What look tells of the bench; what it does at it stays only if keep is True, or look calls keep."""
        with self.block():
            found = look(self)
            if keep is True:
                self.keep()
        return found

    def copy(self):
        """A bench by itself, alike in all things, outside of all blocks."""
        other = Bench(self.program.text, self._kepts[0].spare)
        other._stand(self._deeds_done, self._kepts, self._undone)
        return other


def deeds_of(bench):
    """The deeds that stand, in sequence."""
    return bench._deeds_done


def first_spare(bench):
    """The spare with which a bench was made."""
    return bench._kepts[0].spare
