"""The calls 11 ask to 17 news; their numbers and rows are in range already."""

from classeditions.queries import Query, first_difference, share_of, with_bits
from classeditions.query_text import read_pieces
from classeditions.refusals import NO_PAPER, NO_QUERY, NOT_RIGHT, NOT_THERE
from classeditions.rows import counted
from classeditions.topics import topics_of


def answer_query_call(records, number, numbers, rows):
    k = numbers[0]
    if number == 11:
        return put_query(records, k, numbers[1], rows[0])
    if not records.has_query(k):
        return [NO_QUERY]
    if number == 12:
        return tell_query(records.queries[k])
    if number == 13:
        return tell_found(records, k)
    if number == 14:
        return tell_likely(records, k, numbers[1])
    if number == 15:
        return tell_ranked(records, k)
    if number == 16:
        return tell_same(records, k, numbers[1])
    return tell_news(records, k)


def put_query(records, k, e, text):
    if not records.has_edition(e):
        return [NOT_THERE]
    pieces = read_pieces(text, records.editions[e])
    if pieces is None:
        return [NOT_RIGHT]
    records.queries[k] = Query(e, text, with_bits(pieces, records.meant_sets))
    return [len(pieces)]


def tell_query(query):
    return [query.read_by] + query.text


def tell_found(records, k):
    surely = []
    maybe = []
    for p, share in enumerate(all_shares(records, k)):
        if share[0] == share[1]:
            surely.append(p)
        elif share[0] > 0:
            maybe.append(p)
    return counted(surely) + counted(maybe)


def tell_likely(records, k, p):
    if not records.has_paper(p):
        return [NO_PAPER]
    return lowest_terms(share_of(records.queries[k], records.papers[p], records.meant_sets))


def tell_ranked(records, k):
    found = []
    for p, share in enumerate(all_shares(records, k)):
        if share[0] > 0:
            found.append([p] + lowest_terms(share))
    told = [len(found)]
    for ranked in sorted(found, key=rank):
        told.extend(ranked)
    return told


def tell_same(records, j, k):
    if not records.has_query(k):
        return [NO_QUERY]
    difference = first_difference(records.queries[j], records.queries[k], records.meant_sets)
    if difference is None:
        return [1]
    return [0, difference[0]] + counted(difference[1]) + counted(topics_of(difference[2]))


def tell_news(records, k):
    query = records.queries[k]
    fresh = []
    for p, share in enumerate(all_shares(records, k)):
        if share[0] == share[1] and p not in query.told:
            fresh.append(p)
    query.told.extend(fresh)
    return counted(fresh)


def all_shares(records, k):
    """For each paper, of how many of its meanings the query is so, and how many it has."""
    return [share_of(records.queries[k], paper, records.meant_sets) for paper in records.papers]


def lowest_terms(share):
    """The fraction in lowest terms: numerator and denominator."""
    greater = share[1]
    lesser = share[0]
    while lesser > 0:
        rest = greater % lesser
        greater = lesser
        lesser = rest
    return [share[0] // greater, share[1] // greater]


def rank(ranked):
    """A paper with its fraction: the likelier the lesser, of alike ones the lesser number."""
    # 27720 is a multiple of 1 to 12, and three marks have that many topics each: the division leaves no rest.
    return (-(27720 ** 3 // ranked[2] * ranked[1]), ranked[0])
