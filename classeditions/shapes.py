"""The shape of each call in the list of calls, and what its numbers and rows may be."""

from classeditions.rows import all_up_to, goes_up

NUMBER_KINDS = {
    0: (),
    1: ("edition",),
    2: ("edition", "class"),
    3: ("edition", "class", "edition"),
    4: ("edition", "edition", "edition", "class"),
    5: ("edition", "class", "edition"),
    6: ("day",),
    7: ("paper", "edition", "class"),
    8: ("paper", "mark", "edition", "class"),
    9: ("paper", "mark"),
    10: ("paper",),
    11: ("place", "edition"),
    12: ("place",),
    13: ("place",),
    14: ("place", "paper"),
    15: ("place",),
    16: ("place", "place"),
    17: ("place",),
    18: (),
}
ROW_KINDS = {0: ("edition text",), 6: ("words", "classes"), 11: ("query text",)}

# Every kind's range begins at 0.
GREATEST = {
    "edition": 3,
    "class": 15,
    "paper": 11,
    "mark": 2,
    "place": 3,
    "day": 999,
    "edition text": 255,
    "query text": 255,
    "words": 5,
    "classes": 15,
}
LONGEST = {"edition text": 400, "query text": 60, "words": 6, "classes": 3}


def split_calls(calls):
    """Each call as its number, its whole numbers, and its rows."""
    found = []
    start = 0
    while start < len(calls):
        number = calls[start]
        end = start + 1 + len(NUMBER_KINDS[number])
        numbers = calls[start + 1:end]
        rows = []
        for kind in ROW_KINDS.get(number, ()):
            first = end + 1
            end = first + calls[end]
            rows.append(calls[first:end])
        found.append((number, numbers, rows))
        start = end
    return found


def in_range(number, numbers, rows):
    """Are all numbers of a call in their ranges and its rows as told?"""
    for kind, value in zip(NUMBER_KINDS[number], numbers):
        if value < 0 or value > GREATEST[kind]:
            return False
    for kind, row in zip(ROW_KINDS.get(number, ()), rows):
        if not row_in_range(kind, row):
            return False
    return True


def row_in_range(kind, row):
    if len(row) > LONGEST[kind] or not all_up_to(row, GREATEST[kind]):
        return False
    return kind != "words" or goes_up(row)
