"""Books: a STORE, and a PROGRAM that is changed deed by deed."""

from forkjoins.again import run_again
from forkjoins.errors import NoBack, NoStep
from forkjoins.kinds import is_number
from forkjoins.plain import plain_run
from forkjoins.programs import fits, goes_with
from forkjoins.texts import shown_program
from forkjoins.ways import put_at


class Book:
    """A book of a STORE and a PROGRAM that goes with it; it keeps the PROGRAMS that stood ahead of each deed."""

    def __init__(self, store, *, program=()):
        self.store = store
        self.program = program
        self.past = []
        self.again = ()

    def change(self, way, thing):
        """What the WAY leads to is the thing now, both any: True, False where it was so already; or NoStep."""
        newer = put_at(self.program, way, thing)
        if not goes_with(newer, self.store):
            raise NoStep("store")
        if not fits(newer):
            raise NoStep("many")
        if newer == self.program:
            return False
        self.again = run_again(self.store, self.program, newer)[1]
        self.past.append(self.program)
        self.program = newer
        return True

    def back(self, times=1):
        """So many of the last deeds are undone, times any thing: the PROGRAM that stands then; or NoBack."""
        if not is_number(times) or not 1 <= times <= len(self.past):
            raise NoBack(times)
        elder = self.past[-times]
        self.again = run_again(self.store, self.program, elder)[1]
        self.past = self.past[:-times]
        self.program = elder
        return elder

    def store_now(self):
        """The STORE."""
        return self.store

    def program_now(self):
        """The PROGRAM."""
        return self.program

    def rows_now(self):
        """The RUN ROWS of the PROGRAM."""
        return plain_run(self.store, self.program)

    def again_now(self):
        """What the last change that told True, or the last back, had run AGAIN: pairs (path, REASON), rising."""
        return self.again

    def then(self, k):
        """The PROGRAM behind the first k deeds, k any thing; or NoStep."""
        if not is_number(k) or not 0 <= k <= len(self.past):
            raise NoStep("number")
        return [*self.past, self.program][k]

    def __len__(self):
        """How many deeds there are."""
        return len(self.past)

    def __str__(self):
        """The text of the PROGRAM."""
        return str(shown_program(self.program))

    def __eq__(self, other):
        """Whether the other, any thing, is a book of the same STORE and PROGRAM."""
        return isinstance(other, Book) and self.store == other.store and self.program == other.program
