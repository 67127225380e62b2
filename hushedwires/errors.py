"""The errors of the package, all directly under WireError."""


class WireError(ValueError):
    """Whatever the functions of this package refuse."""


class BadRatio(WireError):
    """A part of a ratio, a divisor or a text of a ratio is wrong."""
    def __init__(self, what):
        self.what = what


class BadLine(WireError):
    """Lengths and marks make no line."""
    def __init__(self, index, what):
        self.index = index
        self.what = what


class NoSection(WireError):
    """There is no such section."""
    def __init__(self, section):
        self.section = section


class BadShare(WireError):
    """A share is not above 0 and below 1."""


class BadSize(WireError):
    """A size is not above 0, or too small."""


class BadStep(WireError):
    """A step between marks is wrong."""


class BadGap(WireError):
    """A gap is not above 0."""


class BadWord(WireError):
    """Signs make no word."""
    def __init__(self, index, what):
        self.index = index
        self.what = what


class BadCount(WireError):
    """A count is wrong."""


class BadPoles(WireError):
    """A row of poles is wrong."""


class NoPole(WireError):
    """There is no such pole."""
    def __init__(self, pole):
        self.pole = pole


class BadNumber(WireError):
    """There is no thing of this number."""


class TooMany(WireError):
    """More than this function takes."""
    def __init__(self, most):
        self.most = most


class OtherLine(WireError):
    """Two things have unlike counts of sections."""


class BadHum(WireError):
    """A row of ratios is no hum of the line."""
    def __init__(self, index):
        self.index = index


class BadLength(WireError):
    """A length, as a number of sections, is wrong."""
    def __init__(self, length):
        self.length = length


class BadText(WireError):
    """A text cannot be read."""
    def __init__(self, place, what):
        self.place = place
        self.what = what


class BadPower(WireError):
    """A power is wrong."""


class BadStretch(WireError):
    """A stretch of sections is wrong."""


class BadPolynomial(WireError):
    """Coefficients make no polynomial."""


class BadSpan(WireError):
    """Hums make no span."""
    def __init__(self, index, what):
        self.index = index
        self.what = what


class BadDegree(WireError):
    """A degree is wrong."""
    def __init__(self, degree):
        self.degree = degree


class BadShares(WireError):
    """Shares do not fit the told hums."""


class BadLimits(WireError):
    """Mosts and steps make no limits."""
    def __init__(self, index, what):
        self.index = index
        self.what = what


class BadFactor(WireError):
    """A factor is below 0 or no ratio."""


class BadValues(WireError):
    """Known values are wrong."""
    def __init__(self, index, what):
        self.index = index
        self.what = what


class BadSums(WireError):
    """A row of sums is wrong."""
    def __init__(self, index, what):
        self.index = index
        self.what = what


class Beyond(WireError):
    """A hum is not allowed."""
    def __init__(self, what, place):
        self.what = what
        self.place = place


class BadCrossings(WireError):
    """A number of crossings is wrong."""


class BadAmount(WireError):
    """An amount is no ratio."""


class BadPlan(WireError):
    """Words make no plan."""
    def __init__(self, index, what):
        self.index = index
        self.what = what


class NoPair(WireError):
    """There is no such pair."""
    def __init__(self, pair):
        self.pair = pair


class BadHums(WireError):
    """A sequence of hums is wrong."""
    def __init__(self, index):
        self.index = index


class NotHushed(WireError):
    """A word is heard under this told hum."""
    def __init__(self, hum):
        self.hum = hum


class BadPairs(WireError):
    """A number of pairs is wrong."""


class NotUpright(WireError):
    """A plan is heard under the level hum."""
    def __init__(self, pair, other):
        self.pair = pair
        self.other = other


class NoFold(WireError):
    """A word does not fold at this length."""
    def __init__(self, length):
        self.length = length


class BadLinks(WireError):
    """A row of links is wrong."""
    def __init__(self, index, what):
        self.index = index
        self.what = what


class NoExchange(WireError):
    """Two links cannot be exchanged here."""
    def __init__(self, place):
        self.place = place


class BadChain(WireError):
    """Links make no chain."""
    def __init__(self, index, what):
        self.index = index
        self.what = what


class BadOrder(WireError):
    """An order is wrong."""


class BadPattern(WireError):
    """Signs make no pattern."""
    def __init__(self, index, what):
        self.index = index
        self.what = what


class BadExtent(WireError):
    """An extent is wrong."""


class BadRepeats(WireError):
    """A number of repeats is wrong."""


class BadPeriod(WireError):
    """A period is wrong."""


class BadBound(WireError):
    """A bound is wrong."""


class BadRest(WireError):
    """A rest is wrong."""


class BadForm(WireError):
    """Coefficients make no form."""


class BadPatterns(WireError):
    """A sequence of patterns is wrong."""


class BadLayout(WireError):
    """Arms make no layout."""
    def __init__(self, section, what):
        self.section = section
        self.what = what


class OtherPairs(WireError):
    """Two things have unlike counts of pairs."""


class BadLegs(WireError):
    """Legs are wrong."""


class BadStrengths(WireError):
    """Strengths are wrong."""
    def __init__(self, index):
        self.index = index


class BadGroups(WireError):
    """Groups are wrong."""


class BadSpots(WireError):
    """Spots are wrong."""


class BadParts(WireError):
    """Parts are wrong."""


class NoSwap(WireError):
    """Nothing can be swapped here."""


class BadWay(WireError):
    """A way is wrong."""


class BadSlack(WireError):
    """A slack is wrong."""
    def __init__(self, index, what):
        self.index = index
        self.what = what


class BadShift(WireError):
    """A shift is wrong."""
    def __init__(self, index):
        self.index = index


class BadWords(WireError):
    """A sequence of words is wrong."""
    def __init__(self, index, what):
        self.index = index
        self.what = what


class BadMost(WireError):
    """A most is wrong."""


class BadTests(WireError):
    """Tests are wrong."""
    def __init__(self, index, what):
        self.index = index
        self.what = what


class BadReadings(WireError):
    """Readings are wrong."""
    def __init__(self, index, what):
        self.index = index
        self.what = what


class NoLots(WireError):
    """There are no lots."""


class BadChange(WireError):
    """A change is wrong."""
    def __init__(self, index, what):
        self.index = index
        self.what = what


class BadWish(WireError):
    """A wish is wrong."""
    def __init__(self, index):
        self.index = index


class NotGranted(WireError):
    """A wish is not granted."""
    def __init__(self, index):
        self.index = index


class NothingDone(WireError):
    """Nothing has been done."""
