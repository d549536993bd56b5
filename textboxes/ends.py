"""Tables that take what programs tell, and tables of the texts of which they tell it (point 16 of the document)."""

from textboxes.boxes import cleared
from textboxes.effects import EffectSteps
from textboxes.programs import ends_of, moves_of
from textboxes.tables import Table, least_table
from textboxes.walks import first_text


def not_always(program, table):
    """Return the first one, by the alphabet, of the shortest texts of which a text is told that a table does not take.

    None stands for that there is none.
    """
    steps = EffectSteps(cleared(program), table)
    return first_text(
        program.letters,
        steps.first(),
        lambda state, letter: steps.after(state, letter),
        lambda state: steps.takes(state) is False,
    )


def where(program, table):
    """Return the least table of the texts of which a program tells a text that a table takes."""
    steps = EffectSteps(cleared(program), table)
    return least_table(
        program.letters,
        steps.first(),
        lambda state, letter: steps.after(state, letter),
        lambda state: steps.takes(state) is True,
    )


def told_at_all(program):
    """Return the least table of the texts that a program does not refuse."""
    moves = {key: target for key, (target, _) in moves_of(program).items()}
    return Table(program.letters, program.places, moves, list(ends_of(program))).least()
