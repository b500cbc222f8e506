"""Reasons: why a change stands where it does."""

from linegate.changes import sheet_of
from linegate.errors import NoChange
from linegate.laying import in_turn, layable
from linegate.sheets import unfit


def why(gate, number):
    """Why a change stands where it does at a gate."""
    if not gate.changes().has(number):
        raise NoChange(f"no change has the number {number}")
    line = gate.line()
    if number in line:
        return ("in", line.index(number))
    grounds = dict(gate.outs())
    if number in grounds:
        return ("out", grounds[number])
    laid = gate.laid()
    if number in laid:
        return ("laid", laid.index(number))
    return why_waiting(gate, number)


def why_waiting(gate, number):
    """Why a change that waits is not laid."""
    if gate.stopped():
        return ("stopped",)
    changes = gate.changes()
    row = gate.line() + gate.laid()
    missing = [lean for lean in changes.leans_of(number) if lean not in row]
    if missing:
        return ("leans", missing)
    if gate.bad() is not None:
        return ("halving", gate.bad())
    slot = unfit(sheet_of(changes, row), changes.edits_of(number))
    if slot is not None:
        return ("unfit", slot)
    # It could be laid itself, so it stands among those that can be.
    turns = in_turn(changes, layable(changes, gate.line(), gate.laid(), gate.waiting()))
    return ("turn", turns.index(number))
