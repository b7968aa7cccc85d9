"""The numbers of changes: what becomes of them when tables are joined or tidied."""

from trackedtextdesk.document import DELETIONS, INSERTIONS, LOOK, PENDING, TAGS, Document


def joined(first, second):
    """The document with the second one behind the first one."""
    by = len(first.table)
    fresh = list(range(by, by + len(second.table) + 1))
    return Document(first.table + second.table, first.row + renumbered_row(second.row, fresh))


def tidied(document):
    """The document without the changes that no piece bears."""
    borne = borne_changes(document.row)
    table = []
    fresh = [0]
    for number, change in enumerate(document.table, start=1):
        if number in borne:
            table.append(change)
        fresh.append(len(table))
    return Document(table, renumbered_row(document.row, fresh))


def borne_changes(row):
    """A dict with the number of each change that a piece bears."""
    borne = {}
    worn = None
    for sign, dress in row:
        if dress != worn:
            for number in changes_in(dress):
                borne[number] = True
        worn = dress
    return borne


def changes_in(dress):
    return list(dress[INSERTIONS]) + list(dress[DELETIONS]) + [entry[0] for entry in dress[PENDING]]


def renumbered_row(row, fresh):
    """The row with each change named by its new number: that of change k stands in fresh at k."""
    renumbered = []
    worn = None
    dress = None
    for sign, old in row:
        # Neighbours that are dressed alike are to share one new dress: such are quick to compare.
        if old != worn:
            dress = renumbered_dress(old, fresh)
        worn = old
        renumbered.append((sign, dress))
    return renumbered


def renumbered_dress(dress, fresh):
    insertions = tuple([fresh[change] for change in dress[INSERTIONS]])
    deletions = tuple([fresh[change] for change in dress[DELETIONS]])
    pending = tuple([(fresh[change], place, value) for change, place, value in dress[PENDING]])
    return (dress[LOOK], insertions, deletions, pending, dress[TAGS])
