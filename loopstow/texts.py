"""The texts of programs and plans."""


def show_program(program):
    """The text of a program."""
    lines = [
        *names_line("given", program.given),
        *again_lines(program.again),
        *names_line("results", program.results),
        *deed_lines(program.ahead),
    ]
    if program.loop is not None:
        lines = [*lines, "loop", *deed_lines(program.loop), "end"]
    if program.second is not None:
        lines = [*lines, *deed_lines(program.between), "second", *deed_lines(program.second), "end"]
    return "\n".join([*lines, *deed_lines(program.behind)])


def show_plan(plan):
    """The text of a plan, whose rows have moves or texts of moves."""
    return "\n".join([row_line(row) for row in plan])


def names_line(word, names):
    """The line with some names, in a list; no line without names."""
    if not names:
        return []
    return [" ".join([word, *names])]


def again_lines(prices):
    """A line for each again name, ascending."""
    return [f"again {name} {prices[name]}" for name in sorted(prices, key=str)]


def deed_lines(deeds):
    """A line for each deed."""
    return [str(deed) for deed in deeds]


def row_line(row):
    """The line of one row of moves."""
    return ", ".join([str(move) for move in row]) or "-"
