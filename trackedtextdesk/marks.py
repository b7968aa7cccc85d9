"""The marks in brackets: their items, what may be wrong with them, and the dress they tell."""

from trackedtextdesk.document import CUT, DELETIONS, INSERTIONS, KIND, LOOK, MOVE, PAINT, PENDING, PUT, TAGS
from trackedtextdesk.signs import COLON, DELETION, FIRST_PROPERTY, INSERTION, LAST_PROPERTY, PENDING_LOOK
from trackedtextdesk.signs import PROPERTIES, TAG, cut_at_blanks, is_numeral, value_of

# One mark for the items of all four properties: these are told apart by their place.
OWN_LOOK = 0

GREATEST_VALUE = 99
GREATEST_TAG = 999


class Item:
    """One item of marks; what it doesn't tell is 0."""

    def __init__(self, mark, number, place, value):
        self.mark = mark
        self.number = number
        self.place = place
        self.value = value


def items_of(marks):
    """The items of marks, or None where something between blanks is no item."""
    if len(marks) == 0:
        return []
    items = []
    for part in cut_at_blanks(marks):
        item = item_of(part)
        if item is None:
            return None
        items.append(item)
    return items


def item_of(part):
    if len(part) == 0:
        return None
    mark = part[0]
    if mark == PENDING_LOOK:
        return pending_item(part[1:])
    if mark in (INSERTION, DELETION, TAG) and is_numeral(part[1:]):
        return Item(mark, value_of(part[1:]), 0, 0)
    if tells_property(part):
        return Item(OWN_LOOK, 0, mark - FIRST_PROPERTY, value_of(part[1:]))
    return None


def pending_item(part):
    if COLON not in part:
        return None
    at = part.index(COLON)
    change = part[:at]
    told = part[at + 1:]
    if not is_numeral(change) or not tells_property(told):
        return None
    return Item(PENDING_LOOK, value_of(change), told[0] - FIRST_PROPERTY, value_of(told[1:]))


def tells_property(part):
    return len(part) > 0 and FIRST_PROPERTY <= part[0] <= LAST_PROPERTY and is_numeral(part[1:])


def is_out_of_range(items, changes):
    """Whether an item's number can't be, where the table has so many changes."""
    for item in items:
        if item.value > GREATEST_VALUE:
            return True
        if item.mark == TAG and not 1 <= item.number <= GREATEST_TAG:
            return True
        if names_change(item) and not 1 <= item.number <= changes:
            return True
    return False


def is_at_odds(items, table):
    """Whether two items tell the same thing, or one names a change of a kind that doesn't go there."""
    told = [(item.mark, item.number, item.place) for item in items]
    if len(set(told)) < len(told):
        return True
    for item in items:
        if names_change(item) and not goes_with(item.mark, table[item.number - 1][KIND]):
            return True
    return False


def names_change(item):
    return item.mark in (INSERTION, DELETION, PENDING_LOOK)


def goes_with(mark, kind):
    if mark == INSERTION:
        return kind in (PUT, MOVE)
    if mark == DELETION:
        return kind in (CUT, MOVE)
    return kind == PAINT


def dress_of(items):
    look = [0, 0, 0, 0]
    for item in items:
        if item.mark == OWN_LOOK:
            look[item.place] = item.value
    pending = [(item.number, item.place, item.value) for item in items if item.mark == PENDING_LOOK]
    insertions = tuple(numbers_with(items, INSERTION))
    deletions = tuple(numbers_with(items, DELETION))
    tags = tuple(sorted(numbers_with(items, TAG)))
    return (tuple(look), insertions, deletions, tuple(pending), tags)


def numbers_with(items, mark):
    return [item.number for item in items if item.mark == mark]


def written_marks(dress):
    """The marks of a dress in the one form, as words; none at all for a plain one."""
    words = []
    for place, value in enumerate(dress[LOOK]):
        if value > 0:
            letter = PROPERTIES[place]
            words.append(f"{letter}{value}")
    words.extend([f"+{change}" for change in dress[INSERTIONS]])
    words.extend([f"-{change}" for change in dress[DELETIONS]])
    for change, place, value in dress[PENDING]:
        letter = PROPERTIES[place]
        words.append(f"*{change}:{letter}{value}")
    words.extend([f"#{tag}" for tag in dress[TAGS]])
    return " ".join(words)
