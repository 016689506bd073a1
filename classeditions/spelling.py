"""How codes and decimal numbers are spelled in bytes."""

LONGEST_CODE = 6
ZERO = 48
NINE = 57
CAPITAL_A = 65
CAPITAL_Z = 90


def is_digit(byte):
    return ZERO <= byte <= NINE


def is_capital(byte):
    return CAPITAL_A <= byte <= CAPITAL_Z


def is_code(row):
    """Is it a capital letter, then up to five capital letters and digits?"""
    if len(row) == 0 or len(row) > LONGEST_CODE or is_digit(row[0]):
        return False
    for byte in row:
        if not is_capital(byte) and not is_digit(byte):
            return False
    return True


def read_decimal(row):
    """The number that digits without zeros in front spell; -1 if the row isn't so."""
    if len(row) == 0 or (len(row) > 1 and row[0] == ZERO):
        return -1
    value = 0
    for byte in row:
        if not is_digit(byte):
            return -1
        value = value * 10 + byte - ZERO
    return value
