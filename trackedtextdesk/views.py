"""The views of a row: all of it, as it is shown, or as it was before; and a document settled to one."""

from trackedtextdesk.document import DELETIONS, DRESS, INSERTIONS, LOOK, PENDING, TAGS, Document

WHOLE = 0
SHOWN = 1
BEFORE = 2


def viewed_row(row, view):
    return [piece for piece in row if is_viewed(piece[DRESS], view)]


def is_viewed(dress, view):
    if view == SHOWN:
        return len(dress[DELETIONS]) == 0
    if view == BEFORE:
        return len(dress[INSERTIONS]) == 0
    return True


def settled(document, view):
    """The document with the pieces of a view alone, on which nothing is tracked any more."""
    row = []
    worn = None
    dress = None
    for sign, old in viewed_row(document.row, view):
        # Neighbours that are dressed alike are to share one new dress: such are quick to compare.
        if old != worn:
            dress = settled_dress(old, view)
        worn = old
        row.append((sign, dress))
    return Document(document.table, row)


def settled_dress(dress, view):
    look = look_as_shown(dress) if view == SHOWN else dress[LOOK]
    return (look, (), (), (), dress[TAGS])


def look_as_shown(dress):
    look = list(dress[LOOK])
    # In their order, so that the last one of a property is the one that stays.
    for change, place, value in dress[PENDING]:
        look[place] = value
    return tuple(look)
