"""Point 0.8: the errors."""

import unittest

from hushedwires import errors

ALL = """BadRatio(what) BadLine(index,what) NoSection(section) BadShare() BadSize() BadStep() BadGap()
BadWord(index,what) BadCount() BadPoles() NoPole(pole) BadNumber() TooMany(most) OtherLine() BadHum(index)
BadLength(length) BadText(place,what) BadPower() BadStretch() BadPolynomial() BadSpan(index,what)
BadDegree(degree) BadShares() BadLimits(index,what) BadFactor() BadValues(index,what) BadSums(index,what)
Beyond(what,place) BadCrossings() BadAmount() BadPlan(index,what) NoPair(pair) BadHums(index) NotHushed(hum)
BadPairs() NotUpright(pair,other) NoFold(length) BadLinks(index,what) NoExchange(place) BadChain(index,what)
BadOrder() BadPattern(index,what) BadExtent() BadRepeats() BadPeriod() BadBound() BadRest() BadForm()
BadPatterns() BadLayout(section,what) OtherPairs() BadLegs() BadStrengths(index) BadGroups() BadSpots()
BadParts() NoSwap() BadWay() BadSlack(index,what) BadShift(index) BadWords(index,what) BadMost()
BadTests(index,what) BadReadings(index,what) NoLots() BadChange(index,what) BadWish(index)
NotGranted(index) NothingDone()"""


def told():
    for entry in ALL.split():
        name, names = entry.rstrip(")").split("(")
        yield getattr(errors, name), [one for one in names.split(",") if one]


class ErrorsTest(unittest.TestCase):
    def test_base(self):
        self.assertEqual(errors.WireError.__bases__, (ValueError,))

    def test_each_stands_directly_under_wire_error(self):
        for error, _ in told():
            self.assertEqual(error.__bases__, (errors.WireError,), error)
            self.assertEqual(error.__module__, "hushedwires.errors")

    def test_each_keeps_its_arguments(self):
        for error, names in told():
            given = [object() for _ in names]
            made = error(*given)
            self.assertEqual(vars(made), dict(zip(names, given)), error)
            self.assertEqual(vars(error(**dict(zip(names, given)))), dict(zip(names, given)))

    def test_each_is_caught(self):
        for error, names in told():
            for caught in (error, errors.WireError, ValueError):
                with self.assertRaises(caught):
                    raise error(*range(len(names)))
            for other, _ in told():
                self.assertIs(issubclass(error, other), error is other)

    def test_each_needs_its_arguments(self):
        for error, names in told():
            if names:
                self.assertRaises(TypeError, error)
            self.assertRaises(TypeError, error, nothing=1)

    def test_nothing_else_stands_there(self):
        defined = {name for name, thing in vars(errors).items() if isinstance(thing, type)}
        self.assertEqual(defined, {error.__name__ for error, _ in told()} | {"WireError"})


if __name__ == "__main__":
    unittest.main()
