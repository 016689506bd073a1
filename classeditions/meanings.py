"""Meanings of papers, by the set of topics that the marks mean together."""

from classeditions.topics import LAST_TOPIC, POWERS, set_of

MOST_MARKS = 3


class MeantSets:
    """Every set of topics that a meaning can mean, each with a bit of its own.

    A number made of such bits stands for some of the sets: so a query is tried on all of them in one step.
    The sets with fewer topics come first, those with as many in the order of lists.
    """

    def __init__(self):
        self.bits = {}
        bit = 1
        for topics in lists_of_topics():
            self.bits[set_of(topics)] = bit
            bit = bit * 2
        self.every = bit - 1

    def meeting(self, topics):
        """The bits of the sets that have one of the topics."""
        return sum([bit for meant, bit in self.bits.items() if (meant & topics) != 0])

    def first_of(self, some):
        """Of the sets whose bits these are, the first."""
        return [meant for meant, bit in self.bits.items() if (some & bit) != 0][0]


def lists_of_topics():
    """The lists, going up, of no more topics than a paper has marks: the shorter ones first."""
    longest = [[]]
    found = [[]]
    for size in range(MOST_MARKS):
        longest = one_topic_longer(longest)
        found.extend(longest)
    return found


def one_topic_longer(lists):
    longer = []
    for topics in lists:
        first = topics[-1] + 1 if len(topics) > 0 else 0
        longer.extend([topics + [topic] for topic in range(first, LAST_TOPIC + 1)])
    return longer


def count_meanings(marks):
    """For each set of topics that the marks can mean together, how many meanings mean it."""
    counts = {0: 1}
    for mark in marks:
        counts = with_one_more(counts, mark)
    return counts


def with_one_more(counts, mark):
    """The counts of the meanings that have one more mark."""
    more = {}
    for power in POWERS:
        if (mark & power) != 0:
            for meant, count in counts.items():
                more[meant | power] = more.get(meant | power, 0) + count
    return more
