"""Sheets, and edits that lead from one sheet to another."""

from linegate.errors import NoFit
from linegate.wholes import rising, within

GREATEST_SLOT = 999
GREATEST_VALUE = 1000000000


def value_at(sheet, slot):
    """The value that a sheet has at a slot."""
    return dict(sheet).get(slot, 0)


def unfit(sheet, edits):
    """The least slot at which edits do not fit a sheet, or None."""
    return misfit(dict(sheet), edits)


def edited(sheet, edits):
    """The sheet that edits lead to, done on a sheet that they fit."""
    return edited_in_turn(sheet, [edits])


def edited_in_turn(sheet, edits_in_turn):
    """The sheet that several edits lead to, done one behind the other."""
    # One dict serves all of them, so that a long row makes one sheet alone.
    values = dict(sheet)
    for edits in edits_in_turn:
        least = misfit(values, edits)
        if least is not None:
            raise NoFit(least)
        for slot, old, new in edits:
            values[slot] = new
    return sheet_of_values(values)


def way_back(edits):
    """The edits that undo edits."""
    return [(slot, new, old) for slot, old, new in edits]


def joined(one, other):
    """The edits that come to the same as one and then other."""
    ahead = by_slot(one)
    behind = by_slot(other)
    told = []
    for slot in sorted(set(ahead) | set(behind)):
        if slot not in behind:
            told.append(ahead[slot])
        elif slot not in ahead:
            told.append(behind[slot])
        else:
            told.extend(joined_at(ahead[slot], behind[slot]))
    return told


def between(sheet, other):
    """The fewest edits that fit a sheet and lead to the other one."""
    before = dict(sheet)
    after = dict(other)
    told = []
    for slot in sorted(set(before) | set(after)):
        old = before.get(slot, 0)
        new = after.get(slot, 0)
        if old != new:
            told.append((slot, old, new))
    return told


def are_edits(edits):
    """Whether a list of tuples of three makes edits."""
    for slot, old, new in edits:
        if not (within(slot, 0, GREATEST_SLOT) and within(old, 0, GREATEST_VALUE)):
            return False
        if not within(new, 0, GREATEST_VALUE) or old == new:
            return False
    return rising([edit[0] for edit in edits])


def misfit(values, edits):
    """The least slot at which edits do not fit values by slot, or None."""
    return min([slot for slot, old, new in edits if values.get(slot, 0) != old], default=None)


def sheet_of_values(values):
    """The sheet of values by slot."""
    return [(slot, values[slot]) for slot in sorted(values) if values[slot] != 0]


def by_slot(edits):
    """The edits as a dict from slot to edit."""
    return dict([(edit[0], edit) for edit in edits])


def joined_at(first, last):
    """What two edits of one slot come to: a list of one edit, or of none."""
    if first[2] != last[1]:
        raise NoFit(first[0])
    if first[1] == last[2]:
        return []
    return [(first[0], first[1], last[2])]
