"""The errors of newsbooks: one class for each kind of failure."""


class NewsError(Exception):
    """What every error of newsbooks is."""


class BadNumber(NewsError):
    """A number is of another kind or size than the call allows; name tells which."""

    def __init__(self, name):
        self.name = name


class BadLot(NewsError):
    """A lot is none, or is empty or W where it may not be."""

    def __init__(self, place):
        self.place = place


class BadRank(NewsError):
    """These cells make no rank."""

    def __init__(self, place):
        self.place = place


class BadComparison(NewsError):
    """A list of comparisons, or of pairs of worlds, is none."""

    def __init__(self, place):
        self.place = place


class BadTable(NewsError):
    """These pairs make no table."""

    def __init__(self, place):
        self.place = place


class BadCase(NewsError):
    """These are no told cases."""

    def __init__(self, place):
        self.place = place


class BadDeed(NewsError):
    """These are no deeds."""

    def __init__(self, place):
        self.place = place


class BadNews(NewsError):
    """This is no row of news."""

    def __init__(self, place):
        self.place = place


class BadFamily(NewsError):
    """This is no family of lots."""

    def __init__(self, place):
        self.place = place


class BadFacts(NewsError):
    """These are no facts, or no set of facts."""

    def __init__(self, place):
        self.place = place


class BadSentence(NewsError):
    """A text is no sentence; place tells where that shows."""

    def __init__(self, place):
        self.place = place


class BadOrder(NewsError):
    """This is no strict order."""

    def __init__(self, place):
        self.place = place


class BadClasses(NewsError):
    """These lots are no classes."""

    def __init__(self, place):
        self.place = place


class BadPairs(NewsError):
    """This is no table of pairs."""

    def __init__(self, place):
        self.place = place


class BadDistance(NewsError):
    """These rows make no distance."""

    def __init__(self, place):
        self.place = place


class BadRule(NewsError):
    """This is no rule."""

    def __init__(self, place):
        self.place = place


class BadGroup(NewsError):
    """This is no group of ranks or books."""

    def __init__(self, place):
        self.place = place


class BadBase(NewsError):
    """This is no base."""

    def __init__(self, place):
        self.place = place


class BadWord(NewsError):
    """A word is none of those that the call knows."""

    def __init__(self, word):
        self.word = word


class BadText(NewsError):
    """A text cannot be read; line tells where."""

    def __init__(self, line):
        self.line = line


class NotSo(NewsError):
    """What the call needs is not so; why tells what."""

    def __init__(self, why):
        self.why = why


class OtherWorlds(NewsError):
    """A later argument has this other number of worlds."""

    def __init__(self, worlds):
        self.worlds = worlds


class TooMany(NewsError):
    """There are more than this limit."""

    def __init__(self, limit):
        self.limit = limit
