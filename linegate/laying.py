"""Laying: which of the waiting changes are put behind the laid ones."""

from linegate.changes import sheet_of
from linegate.sheets import misfit


def free(changes, line, laid, waiting):
    """The waiting ones that lean on none but those on the line or laid, rising."""
    here = dict([(number, True) for number in list(line) + list(laid)])
    return [number for number in waiting if all([lean in here for lean in changes.leans_of(number)])]


def layable(changes, line, laid, waiting):
    """The waiting ones that can be laid behind the laid ones, rising."""
    values = values_behind(changes, line, laid)
    return [number for number in free(changes, line, laid, waiting) if fits(changes, values, number)]


def next_laid(changes, line, laid, waiting):
    """The one that is laid next, or None where none can be laid."""
    return first_fitting(changes, values_behind(changes, line, laid), free(changes, line, laid, waiting))


def filled(changes, line, laid, waiting, width):
    """The laid ones, with one after another put behind them up to a width."""
    told = list(laid)
    left = list(waiting)
    # Kept up with each one laid, so that the line is not gone through for each.
    values = values_behind(changes, line, laid)
    while len(told) < width:
        chosen = first_fitting(changes, values, free(changes, line, told, left))
        if chosen is None:
            return told
        told.append(chosen)
        left.remove(chosen)
        for slot, old, new in changes.edits_of(chosen):
            values[slot] = new
    return told


def first_fitting(changes, values, numbers):
    """The one of greatest rank, then least number, whose edits fit values by slot, or None."""
    # In turn, so that no more edits are tried than up to the first that fit.
    for number in in_turn(changes, numbers):
        if fits(changes, values, number):
            return number
    return None


def in_turn(changes, numbers):
    """The numbers with the greatest rank first, and of like ranks the least number."""
    return sorted(numbers, key=lambda number: (-changes.rank_of(number), number))


def values_behind(changes, line, laid):
    """The values by slot of the line with the laid ones."""
    return dict(sheet_of(changes, list(line) + list(laid)))


def fits(changes, values, number):
    """Whether the edits of a change fit values by slot."""
    return misfit(values, changes.edits_of(number)) is None
