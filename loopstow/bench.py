"""The bench: a machine that plays the straight form of a task, move by move and deed by deed."""

from loopstow.checks import is_count, is_name
from loopstow.errors import BadMove, BadName, BadNumber, BadPlan, Barred, Finished
from loopstow.moves import Again, Bring, Forget, Load, Move
from loopstow.standings import Standing


class Bench:
    """Plays the straight form of a task for some rounds; its slots have indexes."""

    def __init__(self, task, n=0, m=0):
        self._task = task.straight(n, m)
        self._cells = (None,) * task.slots
        self._stored = self._task.start.stored
        self._paid = 0
        self._done = 0

    @property
    def cells(self):
        """A name or None for each slot."""
        return self._cells

    @property
    def standing(self):
        """The standing of all names."""
        return Standing([name for name in self._cells if name is not None], self._stored)

    @property
    def paid(self):
        """The price of all moves so far."""
        return self._paid

    @property
    def done(self):
        """How many deeds are done."""
        return self._done

    @property
    def deed(self):
        """The next deed, or None."""
        deeds = self._task.program.ahead
        return deeds[self._done] if self._done < len(deeds) else None

    @property
    def is_right(self):
        """Whether all deeds are done and all results are stored."""
        return self.deed is None and missing_result(self._task, self._stored) is None

    def move(self, move):
        """Does a move, or the one with this text, and returns its price."""
        known = move if isinstance(move, Move) else Move.read(move)
        behind = self._task.after(self.standing, known)
        price = self._task.price_of(known)
        if isinstance(known, Bring):
            self._cells = with_name(self._cells, known.name)
        elif isinstance(known, Forget):
            self._cells = without_name(self._cells, known.name)
        self._stored = behind.stored
        self._paid = self._paid + price
        return price

    def advance(self):
        """Does the next deed and returns how many are left."""
        deed = self.deed
        if deed is None:
            raise Finished()
        behind = self._task.after(self.standing, deed)
        if deed.makes is not None:
            self._cells = with_name(self._cells, deed.makes)
        self._stored = behind.stored
        self._done = self._done + 1
        return len(self._task.program.ahead) - self._done

    def put(self, i, name):
        """Forgets what lies in a slot, brings a name there, or None, and returns the price."""
        check_cell(self, i)
        if name is None:
            self._cells = with_cell(self._cells, i, None)
            return 0
        if not is_name(name):
            raise BadName(name)
        if self._cells[i] == name:
            return 0
        if name in self._cells:
            raise Barred("held", name)
        price = self._task.price_of(self.bringing(name))
        self._cells = with_cell(self._cells, i, name)
        self._paid = self._paid + price
        return price

    def bringing(self, name):
        """The move that brings a name which lies in no slot."""
        again = self._task.program.again
        if name not in self._stored:
            if name not in again:
                raise Barred("unstored", name)
            return Again(name)
        if name in again and again[name] < self._task.prices.load_of(name):
            return Again(name)
        return Load(name)

    def trial(self):
        """A context in which the bench can be used, and behind which it is as it was."""
        return Trial(self)

    def tried(self, deed):
        """What a function returns that is called with the bench in a trial."""
        with self.trial() as held:
            return deed(held)

    def __getitem__(self, at):
        check_cell(self, at)
        return self._cells[at]

    def __setitem__(self, at, worth):
        self.put(at, worth)

    def __iter__(self):
        raise TypeError("ask for the cells of a bench")

    def __call__(self, thing):
        return self.advance() if thing is None else self.move(thing)


class Trial:
    """The context of a trial: it keeps what the bench was when the block began."""

    def __init__(self, bench):
        self._bench = bench
        self._cells = None
        self._stored = None
        self._paid = None
        self._done = None

    def __enter__(self):
        bench = self._bench
        self._cells = bench._cells
        self._stored = bench._stored
        self._paid = bench._paid
        self._done = bench._done
        return bench

    def __exit__(self, kind, value, trace):
        bench = self._bench
        bench._cells = self._cells
        bench._stored = self._stored
        bench._paid = self._paid
        bench._done = self._done


def check_cell(bench, i):
    """Refuse what is no index of a slot."""
    if not is_count(i) or i >= len(bench.cells):
        raise BadNumber(i)


def with_cell(cells, i, name):
    """The cells with another one at an index."""
    return (*cells[:i], name, *cells[i + 1:])


def with_name(cells, name):
    """The cells with a name, in its cell or in the free one with the least index."""
    return cells if name in cells else with_cell(cells, cells.index(None), name)


def without_name(cells, name):
    """The cells without a name."""
    return with_cell(cells, cells.index(name), None)


def missing_result(task, stored):
    """The least result of a task that is not among the stored names, or None."""
    for name in task.program.results:
        if name not in stored:
            return name
    return None


def play(task, plan, n=0, m=0):
    """The price of a plan for the straight form of some rounds."""
    bench = Bench(task, n, m)
    rows = checked_plan(plan, len(task.straight(n, m).program.ahead))
    for at, row in enumerate(rows):
        for index, move in enumerate(row):
            do_or_tell(bench, move, at, index)
        if at < len(rows) - 1:
            do_or_tell(bench, None, at, None)
    missing = missing_result(task, bench.standing.stored)
    if missing is not None:
        raise BadPlan(len(rows) - 1, None, "results", missing)
    return bench.paid


def do_or_tell(bench, thing, at, index):
    """Does a move, or the next deed for None; tells where in a plan it stands if it cannot be done."""
    try:
        bench(thing)
    except Barred as why:
        raise BadPlan(at, index, why.word, why.name) from why


def checked_plan(plan, deeds):
    """The rows of moves of a plan for so many deeds; whatever has another form is refused."""
    if not isinstance(plan, (list, tuple)) or len(plan) != deeds + 1:
        raise BadPlan(None, None, "form", None)
    if not all([isinstance(row, (list, tuple)) for row in plan]):
        raise BadPlan(None, None, "form", None)
    rows = []
    for at, row in enumerate(plan):
        moves = []
        for index, move in enumerate(row):
            try:
                moves.append(move if isinstance(move, Move) else Move.read(move))
            except BadMove:
                raise BadPlan(at, index, "form", None) from None
        rows.append(moves)
    return rows
