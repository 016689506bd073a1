"""Sets of topics, told as numbers: the sum of 2^t over the topics t."""

LAST_TOPIC = 11
POWERS = (1, 2, 4, 8, 16, 32, 64, 128, 256, 512, 1024, 2048)


def set_of(topics):
    """The set of the topics of a list."""
    found = 0
    for topic in topics:
        found = found | POWERS[topic]
    return found


def topics_of(number):
    """The topics of a set, going up."""
    return [topic for topic, power in enumerate(POWERS) if (number & power) != 0]


def without(first, second):
    """The topics of the first set that the second hasn't."""
    return first - (first & second)


def size_of(topics):
    """How many topics a set has."""
    return len(topics_of(topics))
