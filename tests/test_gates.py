"""Gates, and what they sort."""

import itertools
import random

from support import Case, any_values
from unseentables.gates import after_gates, gate_limit, gates, sorts_error

EXAMPLE = ((0, 1), (1, 2), (0, 1))


def ascends(row):
    return list(row) == sorted(row)


class Gates(Case):
    def test_limit(self):
        self.told([gate_limit(many) for many in (1, 2, 3, 4, 5, 8, 9, 64)], [0, 1, 5, 5, 19, 19, 63, 543])
        for many in range(1, 65):
            digits = min([d for d in range(8) if 2 ** d >= many])
            self.told(gate_limit(many), (digits * digits - digits + 4) * 2 ** digits // 4 - 1)

    def test_form(self):
        for many in range(1, 65):
            network = self.calls(gates, (many,))
            self.assertIs(type(network), tuple)
            self.assertLessEqual(len(network), gate_limit(many))
            for gate in network:
                self.assertIs(type(gate), tuple)
                low, high = gate
                self.assertEqual([type(low), type(high)], [int, int])
                self.assertTrue(0 <= low < high < many)
        self.told(gates(1), ())
        self.told(gates(2), ((0, 1),))

    def test_all_rows_of_noughts_and_ones(self):
        for many in range(1, 11):
            network = gates(many)
            for row in itertools.product((0, 1), repeat=many):
                self.told(after_gates(network, row), tuple(sorted(row)))

    def test_drawn_rows(self):
        chance = random.Random(9)
        for many in range(1, 65):
            network = gates(many)
            for most in (1, 3, 1000, 10 ** 40):
                row = tuple([chance.randrange(-most, most + 1) for _ in range(many)])
                self.told(after_gates(network, row), tuple(sorted(row)))
            for row in (tuple(range(many)), tuple(range(many, 0, -1)), (5,) * many):
                self.told(after_gates(network, row), tuple(sorted(row)))
            for noughts in range(many + 1):
                row = [0] * noughts + [1] * (many - noughts)
                chance.shuffle(row)
                self.assertTrue(ascends(after_gates(network, tuple(row))))

    def test_calls(self):
        self.calls(gate_limit, (9,))
        self.told(gates(many=5), gates(5))
        self.told(gate_limit(many=5), 19)


class AfterGates(Case):
    def test_examples(self):
        self.told(after_gates(EXAMPLE, (3, 1, 2)), (1, 2, 3))
        self.told(after_gates(((0, 2),), (3, 1, 2)), (2, 1, 3))
        self.told(after_gates((), (2, 1)), (2, 1))
        self.told(after_gates(gates(5), (4, 4, -7, 10 ** 20, 0)), (-7, 0, 4, 4, 10 ** 20))
        self.told(after_gates((), (7,)), (7,))

    def test_order_of_gates_counts(self):
        self.told(after_gates(((0, 1), (1, 2)), (1, 1, 0)), (1, 0, 1))
        self.told(after_gates(((1, 2), (0, 1)), (1, 1, 0)), (0, 1, 1))

    def test_drawn_networks(self):
        chance = random.Random(10)
        for _ in range(400):
            many = chance.randrange(2, 9)
            network = tuple([tuple(sorted(chance.sample(range(many), 2))) for _ in range(chance.randrange(9))])
            row = tuple([chance.randrange(-3, 4) for _ in range(many)])
            expected = list(row)
            for low, high in network:
                least, greatest = sorted((expected[low], expected[high]))
                expected[low], expected[high] = least, greatest
            self.told(self.calls(after_gates, (network, row)), tuple(expected))

    def test_noughts_and_ones_for_a_bound(self):
        chance = random.Random(11)
        for _ in range(300):
            many = chance.randrange(2, 9)
            network = tuple([tuple(sorted(chance.sample(range(many), 2))) for _ in range(chance.randrange(9))])
            row = tuple([chance.randrange(6) for _ in range(many)])
            for bound in range(-1, 7):
                cut = tuple([int(item > bound) for item in row])
                self.told(after_gates(network, cut), tuple([int(item > bound) for item in after_gates(network, row)]))

    def test_calls(self):
        self.calls(after_gates, (EXAMPLE, (3, 1, 2)))
        self.told(after_gates(row=(2, 1, 0), network=EXAMPLE), (0, 1, 2))


class SortsErrors(Case):
    def sorts(self, many, network):
        """Whether network sorts; a row that is told really is not ascending behind it."""
        error = sorts_error(many, network)
        if error is not None:
            self.assertNotEqual(error, "form")
            self.assertEqual([type(error), len(error)], [tuple, many])
            self.assertEqual({(type(item), item in (0, 1)) for item in error}, {(int, True)})
            self.assertFalse(ascends(after_gates(network, error)))
        return error is None

    def test_examples(self):
        values = (EXAMPLE, ((0, 1), (1, 2)), ((1, 0),), ((0, 3),), [(0, 1)], ((0, True),))
        self.told([sorts_error(3, value) for value in values], [None, (1, 1, 0), "form", "form", "form", "form"])
        self.told([sorts_error(2, ()), sorts_error(1, ())], [(1, 0), None])

    def test_networks_that_sort(self):
        for many in range(1, 11):
            bubbles = tuple([(place, place + 1) for end in range(many, 1, -1) for place in range(end - 1)])
            for network in (gates(many), bubbles, gates(many) * 2):
                self.told(sorts_error(many, network), None)

    def test_a_gate_left_out(self):
        for many in range(2, 11):
            bubbles = tuple([(place, place + 1) for end in range(many, 1, -1) for place in range(end - 1)])
            for place in range(len(bubbles)):
                self.assertFalse(self.sorts(many, bubbles[:place] + bubbles[place + 1:]))
            network = gates(many)
            self.assertFalse(self.sorts(many, network[:-1]))
            for place in range(len(network) if many < 7 else 0):
                rest = network[:place] + network[place + 1:]
                rows = itertools.product((0, 1), repeat=many)
                self.assertEqual(self.sorts(many, rest), all([ascends(after_gates(rest, row)) for row in rows]))

    def test_drawn_networks(self):
        chance = random.Random(12)
        found = {True: 0, False: 0}
        for _ in range(400):
            many = chance.randrange(1, 5)
            network = tuple([tuple(sorted(chance.sample(range(many), 2))) for _ in range(chance.randrange(12))
                             if many > 1])
            expected = all([ascends(after_gates(network, row)) for row in itertools.permutations(range(many))])
            self.assertEqual(self.sorts(many, network), expected)
            found[expected] += 1
        self.assertGreater(min(found.values()), 50)

    def test_form(self):
        for gate in (None, 5, "ab", (), (0,), (0, 1, 2), [0, 1], (1, 0), (1, 1), (0, 3), (2, 3), (-1, 0), (0, True),
                     (False, 1), (None, 1), (0, "1"), (0, (1,)), {}, {0: 1}):
            self.told(sorts_error(3, (gate,)), "form")
            self.told(sorts_error(3, EXAMPLE + (gate,)), "form")
        for value in (None, True, 3, "", "ab", [], {}, [(0, 1)], list(EXAMPLE), {(0, 1): (1, 2)}):
            self.told(sorts_error(3, value), "form")
            self.told(sorts_error(1, value), "form")
        self.told(sorts_error(1, ((0, 1),)), "form")
        self.told(sorts_error(2, EXAMPLE), "form")

    def test_any_value(self):
        for value in any_values(25, (EXAMPLE, gates(4), gates(3), ()), 700):
            error = sorts_error(4, value)
            if error is not None and error != "form":
                self.assertFalse(ascends(after_gates(value, error)))

    def test_calls(self):
        for value in (EXAMPLE, (), [(0, 1)], None):
            self.calls(sorts_error, (3, value))
        self.told(sorts_error(value=EXAMPLE, many=3), None)
