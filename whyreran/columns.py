"""A log as columns: an integer for each name, with two places (bits) for each build.

The places of a build are 2 * index and 2 * index + 1, so one operation on two columns compares
them in all builds together. The callers have checked the arguments.
"""


class Columns:
    """The columns of a log.

    The first place of a build is set in a signal if the name is changed in it, in a word if the
    target ran, and in a pending column if the target is pending. The second place is set in a
    signal if the name is broken, and in a word if the target is blocked.
    """

    def __init__(self, project, log):
        sources, targets = project
        many = len(targets)
        # The digits 1 of a number to the base 4: the first places of all builds.
        self.firsts = ((1 << 2 * len(log)) - 1) // 3
        self.signals = _signals_of_sources(sources, log)
        self.words = {}
        self.pending = {}
        # No two statuses begin with the same letter, and whole texts are turned into digits fast.
        letters = "".join([statuses[target][0] for _, statuses in log for target in targets])
        signals = letters.translate(str.maketrans("nsfbi", "10220"))
        words = letters.translate(str.maketrans("nsfbi", "11120"))
        for at, target in enumerate(targets):
            self.signals[target] = _column(signals, at, many)
            self.words[target] = _column(words, at, many)
            # The place behind the second one of a build is the first one of the next build.
            self.pending[target] = (self.signals[target] << 1) & self.firsts


def _signals_of_sources(sources, log):
    signals = {source: 0 for source in sources}
    for index, (changed, _) in enumerate(log):
        for source in changed:
            signals[source] += 1 << 2 * index
    return signals


def _column(digits, at, many):
    """Return the number with every digit that stands at this place of a row of digits."""
    # The first build has the lowest places, so its digit comes last.
    return int("0" + digits[at - many::-many], 4)


def first_place(places):
    """Return the lowest place that is set in a column; at least one is."""
    return (places & -places).bit_length() - 1


def first_index(places):
    """Return the index of the first build with a place that is set in a column."""
    return first_place(places) // 2
