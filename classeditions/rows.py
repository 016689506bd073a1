"""What is asked of plain rows of whole numbers."""


def all_up_to(row, most):
    """Is each number of the row from 0 to most?"""
    for value in row:
        if value < 0 or value > most:
            return False
    return True


def goes_up(row):
    """Is each number of the row greater than the one before it?"""
    for place in range(1, len(row)):
        if row[place] <= row[place - 1]:
            return False
    return True


def split_at(row, mark):
    """The parts of the row between its marks: always one more than it has marks."""
    parts = []
    part = []
    for value in row:
        if value == mark:
            parts.append(part)
            part = []
        else:
            part.append(value)
    parts.append(part)
    return parts


def counted(row):
    """The row with how many numbers it has before it."""
    return [len(row)] + row
