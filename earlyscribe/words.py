"""Words: what they have in common at their beginning, and what is left behind it."""


def shared_length(one, other):
    """How many letters the longest word that begins both words has."""
    sure = 0
    most = min(len(one), len(other))
    # Halving compares long stretches at once: words told by other parts may have very many letters.
    while sure < most:
        middle = (sure + most + 1) // 2
        if one[sure:middle] == other[sure:middle]:
            sure = middle
        else:
            most = middle - 1
    return sure


def common_of(words):
    """The longest word that begins each word of a list of one word or more."""
    # By the alphabet all the words lie between these two, so what begins both begins each of them.
    first = min(words)
    last = max(words)
    return first[:shared_length(first, last)]


def gap_of(one, other):
    """What is left of two words, the longest word that begins both taken off."""
    shared = shared_length(one, other)
    return (one[shared:], other[shared:])
