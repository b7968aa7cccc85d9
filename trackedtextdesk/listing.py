"""What a document holds, listed as numbers: its pieces, its table, its paragraphs."""

from trackedtextdesk.document import AUTHOR, DELETIONS, INSERTIONS, KIND, LOOK, PENDING, TAGS, TIME, paragraph_ends


def listed_pieces(row):
    listed = [len(row)]
    worn = None
    told = []
    for sign, dress in row:
        # Neighbours mostly share a dress, which is then listed once for all of them.
        if dress != worn:
            told = listed_dress(dress)
        worn = dress
        listed.append(sign)
        listed.extend(told)
    return listed


def listed_dress(dress):
    pending = [len(dress[PENDING])]
    for entry in dress[PENDING]:
        pending.extend(entry)
    return list(dress[LOOK]) + counted(dress[INSERTIONS]) + counted(dress[DELETIONS]) + pending + counted(dress[TAGS])


def counted(numbers):
    return [len(numbers)] + list(numbers)


def listed_table(table):
    listed = [len(table)]
    for change in table:
        listed.extend([change[AUTHOR], change[TIME], change[KIND]])
    return listed


def listed_paragraphs(row):
    lengths = []
    start = 0
    for end in paragraph_ends(row):
        lengths.append(end + 1 - start)
        start = end + 1
    return counted(lengths)
