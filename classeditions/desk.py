"""The desk: a list of calls on one new object, and what they answer."""

from classeditions.edition_calls import answer_edition_call
from classeditions.paper_calls import answer_paper_call
from classeditions.query_calls import answer_query_call
from classeditions.records import Records
from classeditions.refusals import OUT_OF_RANGE
from classeditions.shapes import in_range, split_calls

LAST_EDITION_CALL = 5
LAST_PAPER_CALL = 10
LAST_QUERY_CALL = 17


def answers(calls):
    """For each call, in order, how many numbers are answered, and these."""
    records = Records()
    told = []
    for number, numbers, rows in split_calls(calls):
        answered = answer(records, number, numbers, rows)
        told.append(len(answered))
        told.extend(answered)
    return told


def answer(records, number, numbers, rows):
    """What one call answers."""
    if not in_range(number, numbers, rows):
        return [OUT_OF_RANGE]
    if number <= LAST_EDITION_CALL:
        return answer_edition_call(records, number, numbers, rows)
    if number <= LAST_PAPER_CALL:
        return answer_paper_call(records, number, numbers, rows)
    if number <= LAST_QUERY_CALL:
        return answer_query_call(records, number, numbers, rows)
    return tell_counts(records)


def tell_counts(records):
    """The call 18 counts."""
    return [len(records.editions), len(records.papers)]
