"""Points 4.5 to 4.7: layers of rows of sums, the least hushed word, and the judge of layers."""

import unittest
from fractions import Fraction
from itertools import product

from hushedwires.errors import BadHums, TooMany
from hushedwires.layers import Layers, check_hums, first_word, layers_fault, layers_of
from hushedwires.lines import Line
from tests.reckon import (
    WRONG_RATIOS, Case, all_words, fraction, fractions, line_from, long_ratio, no_rows, noise, random_line,
    random_ratio, ratio, ratios, seeded)

LEVEL_3, LEVEL_4 = [ratios(1, 1, 1)], [ratios(1, 1, 1, 1)]


def beginnings(count):
    return [()] if count == 0 else [(1,) + rest for rest in product((1, -1), repeat=count - 1)]


def right_layers(line, hums):
    """All rows of all beginnings, by every beginning."""
    layers = []
    for count in range(len(line) + 1):
        rows = {tuple(sum(length * sign * entry for length, sign, entry in zip(
            fractions(line.lengths), signs, fractions(hum))) for hum in hums) for signs in beginnings(count)}
        layers.append(tuple(tuple(ratio(one) for one in row) for row in sorted(rows)))
    return tuple(layers)


def random_case(source):
    count = source.randint(1, 6)
    line = source.choice((Line.even(count), random_line(source, count)))
    many = source.choice((0, 1, 1, 2, 3))
    if source.random() < 0.5:
        return line, [ratios(*[source.randint(-1, 1) for _ in range(count)]) for _ in range(many)]
    return line, [[random_ratio(source, -2, 2, 2) for _ in range(count)] for _ in range(many)]


def doubling_hum(count):
    return ratios(*[2 ** section for section in range(count)])


def after(row, line, hums, section, sign):
    return tuple(ratio(fraction(one) + sign * fraction(line.lengths[section]) * fraction(hum[section]))
                 for one, hum in zip(row, hums))


class CheckHumsTest(Case):
    def test_kept(self):
        told = [[(1, 2), (3, 1)], ((0, 1), (-1, 1))]
        self.assertEqual(check_hums(Line.even(2), told), (((1, 2), (3, 1)), ((0, 1), (-1, 1))))
        self.assertEqual([type(hum) for hum in check_hums(Line.even(2), told)], [tuple, tuple])
        self.assertEqual(check_hums(Line.even(2), []), ())
        self.assertEqual(check_hums(Line.even(1), ([(1, 1)],) * 60), (((1, 1),),) * 60)

    def test_refuses(self):
        line, right = Line.even(2), ratios(1, 2)
        for call in (check_hums, layers_of, first_word):
            for thing in no_rows() + [[right] * 61, [None] * 61]:
                self.refuses(BadHums(0), call, line, thing)
            for thing in no_rows() + [(), ratios(1), ratios(1, 1, 1)]:
                self.refuses(BadHums(0), call, line, [thing])
                self.refuses(BadHums(2), call, line, (right, right, thing, None))
            for thing in WRONG_RATIOS:
                self.refuses(BadHums(1), call, line, [right, [(1, 1), thing], [thing]])
                self.refuses(BadHums(0), call, line, [[thing, (1, 1)]])


class LayersOfTest(Case):
    def test_examples(self):
        self.assertEqual(layers_of(Line.even(4), LEVEL_4), (
            (ratios(0),), (ratios(1),), (ratios(0), ratios(2)), (ratios(-1), ratios(1), ratios(3)),
            (ratios(-2), ratios(0), ratios(2), ratios(4))))
        self.assertEqual(layers_of(Line.even(3), LEVEL_3), (
            (ratios(0),), (ratios(1),), (ratios(0), ratios(2)), (ratios(-1), ratios(1), ratios(3))))

    def test_without_hums(self):
        for count in (1, 5, 24):
            self.assertEqual(layers_of(Line.even(count), []), (((),),) * (count + 1))

    def test_ascending_by_numbers(self):
        line = line_from([Fraction(1, 3), Fraction(1, 2), Fraction(1, 7)])
        hums = [ratios(1, 1, 0), ratios(1, -1, 1)]
        self.assertEqual(layers_of(line, hums), right_layers(line, hums))
        self.assertEqual(layers_of(line, hums)[2], (ratios(Fraction(-1, 6), Fraction(5, 6)),
                                                    ratios(Fraction(5, 6), Fraction(-1, 6))))

    def test_small_lines(self):
        source = seeded(45)
        for _ in range(300):
            line, hums = random_case(source)
            told = layers_of(line, hums)
            self.assertEqual(told, right_layers(line, hums))
            for row in [row for layer in told for row in layer]:
                self.assertRatios(row, len(hums))

    def test_most_hums(self):
        source = seeded(46)
        hums = [ratios(*[source.randint(-3, 3) for _ in range(5)]) for _ in range(60)]
        self.assertEqual(layers_of(Line.even(5), hums), right_layers(Line.even(5), hums))

    def test_most_rows(self):
        told = layers_of(Line.even(13), [doubling_hum(13)])
        self.assertEqual([len(layer) for layer in told], [1] + [2 ** power for power in range(13)])
        self.assertEqual(len(told[13]), 4096)
        for call in (layers_of, first_word):
            self.refuses(TooMany(4096), call, Line.even(14), [doubling_hum(14)])
            self.refuses(TooMany(4096), call, Line.even(24), [ratios(*([1] * 24)), doubling_hum(24)])
            self.refuses(BadHums(1), call, Line.even(24), [doubling_hum(24), None])
        # sums of neighbours differ by 2, so a section of 2 ** 0 more adds a single row
        self.refuses(TooMany(4096), layers_of, Line.even(14), [doubling_hum(13) + ratios(1)])
        self.assertEqual(len(layers_of(Line.even(14), [doubling_hum(13) + ratios(0)])[14]), 4096)

    def test_few_rows_on_long_lines(self):
        self.assertEqual(len(layers_of(Line.even(24), [ratios(*([1] * 24))])[24]), 24)

    def test_long_numbers(self):
        source = seeded(47)
        line = Line([long_ratio(source) for _ in range(4)], ratios(0, 1, 2, 3))
        hums = [[long_ratio(source) for _ in range(4)] for _ in range(2)]
        self.assertEqual(layers_of(line, hums), right_layers(line, hums))


class FirstWordTest(Case):
    def test_examples(self):
        self.assertEqual(first_word(Line.even(4), LEVEL_4), (1, 1, -1, -1))
        self.assertEqual(first_word(Line.even(4), LEVEL_4 + [ratios(0, 1, 2, 3)]), (1, -1, -1, 1))
        self.assertEqual(first_word(Line.even(4), []), (1, 1, 1, 1))
        told = first_word(Line.even(3), LEVEL_3)
        self.assertIs(type(told), Layers)
        self.assertIsNone(layers_fault(Line.even(3), LEVEL_3, told))

    def test_small_lines(self):
        source = seeded(461)
        kinds = []
        for _ in range(400):
            line, hums = random_case(source)
            hushed = [word for word in all_words(len(line)) if not any(noise(line, word, hum) for hum in hums)]
            told = first_word(line, hums)
            kinds.append(type(told))
            if hushed:
                self.assertEqual(told, hushed[0])
            else:
                self.assertIs(type(told), Layers)
                self.assertIsNone(layers_fault(line, hums, told))
        self.assertGreater(kinds.count(tuple), 80)
        self.assertGreater(kinds.count(Layers), 80)

    def test_long_lines(self):
        self.assertEqual(first_word(Line.even(24), [ratios(*([1] * 24))]), (1,) * 12 + (-1,) * 12)
        odd = [ratios(*([1] * 23))]
        self.assertIsNone(layers_fault(Line.even(23), odd, first_word(Line.even(23), odd)))
        long = long_ratio(seeded(5))
        self.assertEqual(first_word(Line([long] * 24, ratios(*range(24))), [[long] * 24]), (1,) * 12 + (-1,) * 12)


class LayersFaultTest(Case):
    line = Line.even(3)
    right = layers_of(Line.even(3), LEVEL_3)

    def fault(self, *layers):
        return layers_fault(self.line, LEVEL_3, Layers(layers))

    def test_right(self):
        self.assertIsNone(self.fault(*self.right))
        self.assertIsNone(layers_fault(self.line, LEVEL_3, Layers([list(layer) for layer in self.right])))
        self.assertIsNone(self.fault(*[layer[::-1] + layer for layer in self.right]))

    def test_more_rows(self):
        start, one, two, three = self.right
        self.assertIsNone(self.fault(start, one, two, three + (ratios(7), ratios(Fraction(1, 2)))))
        self.assertIsNone(self.fault(start, one, two + (ratios(4),), three + (ratios(5),)))
        self.assertEqual(self.fault(start, one, two + (ratios(4),), three), "step")
        # section 0 leads on with the sign 1 alone
        self.assertIsNone(self.fault(start + (ratios(10),), one + (ratios(11),), two + ratios_rows(10, 12),
                                     three + ratios_rows(9, 11, 13)))
        self.assertEqual(self.fault(start, one + (ratios(11),), two + ratios_rows(12), three + ratios_rows(11, 13)),
                         "step")

    def test_many(self):
        for thing in no_rows() + [(), self.right[:3], self.right + (self.right[3],)]:
            self.assertEqual(layers_fault(self.line, LEVEL_3, Layers(thing)), "many")
        for thing in no_rows():
            self.assertEqual(self.fault(*self.right[:3], thing), "many")
            self.assertEqual(self.fault(((None,),), *self.right[1:3], thing), "many")

    def test_row(self):
        for thing in no_rows() + [(), [(0, 1)], ratios(0, 0), 0, (0, 1)]:
            self.assertEqual(self.fault(*self.right[:3], self.right[3] + (thing,)), "row")
            self.assertEqual(self.fault((), *self.right[1:3], (thing,)), "row")
        for thing in WRONG_RATIOS:
            self.assertEqual(self.fault(self.right[0] + ((thing,),), *self.right[1:]), "row")
        self.assertEqual(layers_fault(Line.even(1), [], Layers([[()], [((0, 1),)]])), "row")

    def test_start(self):
        self.assertEqual(self.fault((), *self.right[1:]), "start")
        self.assertEqual(self.fault((ratios(1),), *self.right[1:]), "start")
        self.assertEqual(self.fault((), (), (), (ratios(0),)), "start")
        self.assertEqual(layers_fault(Line.even(1), [], Layers([[], [()]])), "start")

    def test_step_and_end(self):
        for number in (1, 2, 3):
            for row in self.right[number]:
                layers = list(self.right)
                layers[number] = tuple(other for other in layers[number] if other != row)
                self.assertEqual(self.fault(*layers), "step")
        self.assertEqual(self.fault(*self.right[:3], self.right[3] + (ratios(0),)), "end")
        self.assertEqual(self.fault(*self.right[:2], (ratios(0),), self.right[3] + (ratios(0),)), "step")
        self.assertEqual(layers_fault(Line.even(4), LEVEL_4, Layers(layers_of(Line.even(4), LEVEL_4))), "end")
        self.assertEqual(layers_fault(Line.even(1), [], Layers([[()], [()]])), "end")

    def test_many_layers(self):
        source = seeded(471)
        told = []
        for _ in range(200):
            line, hums = random_case(source)
            layers = [list(layer) for layer in layers_of(line, hums)]
            number = source.randint(0, len(line))
            added = tuple(random_ratio(source, -2, 2, 2) for _ in hums)
            layers[number].append(added)
            rows = [added]
            for section in range(number, len(line)):
                signs = (1, -1) if section > 0 else (1,)
                rows = [after(row, line, hums, section, sign) for row in rows for sign in signs]
                layers[section + 1] += rows
            fault = layers_fault(line, hums, Layers(layers))
            self.assertEqual(fault, "end" if ratios(*([0] * len(hums))) in layers[-1] else None)
            told.append(fault)
            if len(line) > number and rows[-1] not in layers_of(line, hums)[-1] and rows.count(rows[-1]) == 1:
                layers[-1].remove(rows[-1])
                self.assertEqual(layers_fault(line, hums, Layers(layers)), "step")
                told.append("step")
        for kind in (None, "end", "step"):
            self.assertGreater(told.count(kind), 20)

    def test_refuses(self):
        for thing in no_rows() + [[LEVEL_3[0]] * 61]:
            self.refuses(BadHums(0), layers_fault, self.line, thing, Layers(()))
        self.refuses(BadHums(1), layers_fault, self.line, LEVEL_3 + [ratios(1)], Layers(None))

    def test_no_count_of_rows_is_too_many(self):
        hums = [doubling_hum(13)]
        layers = list(layers_of(Line.even(13), hums))
        layers[13] = layers[13] + ratios_rows(*range(10000, 15000))
        self.assertIsNone(layers_fault(Line.even(13), hums, Layers(layers)))

    def test_result(self):
        told = ["as given"]
        self.assertIs(Layers(told).layers, told)
        self.assertEqual(Layers(((),)), Layers(layers=((),)))
        self.assertNotEqual(Layers(((),)), Layers(()))
        self.assertNotEqual(Layers(((),)), ((),))


def ratios_rows(*numbers):
    return tuple(ratios(number) for number in numbers)


if __name__ == "__main__":
    unittest.main()
