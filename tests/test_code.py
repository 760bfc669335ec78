"""Points 803 to 805: programs of the small machine."""

import copy
import unittest

from helpers import STRANGE, Draw
from kinkmeasure.code import Code, check_code, run_code
from kinkmeasure.errors import BadCode

# One instruction of each kind, all right for three registers, two inputs and four bits.
RIGHT = (("load", 0, 1), ("set", 1, -8), ("times", 2, 0, 7), ("add", 1, 2), ("bend", 1), ("give", 2))


def code(*instructions, width=4, inputs=2, registers=3):
    return Code(width, inputs, registers, instructions)


def run_by(width, registers, instructions, inputs):
    """The same run, worked out with a dict of registers."""
    held = {}
    outputs = []
    for place, (word, r, *more) in enumerate(instructions):
        assert 0 <= r < registers
        if word == "give":
            outputs.append(held.get(r, 0))
            continue
        value = {"load": lambda: inputs[more[0]], "set": lambda: more[0],
                 "times": lambda: more[1] * held.get(more[0], 0), "add": lambda: held.get(r, 0) + held.get(more[0], 0),
                 "bend": lambda: max(held.get(r, 0), 0)}[word]()
        if value not in range(-(2 ** (width - 1)), 2 ** (width - 1)):
            return ("overflow", place)
        held[r] = value
    return ("done", tuple(outputs))


class RunTest(unittest.TestCase):
    def assert_run(self, instructions, inputs, expected, width=4, registers=3):
        self.assertEqual(run_code(Code(width, len(inputs), registers, tuple(instructions)), inputs), expected)

    def test_class(self):
        made = Code(4, 2, 3, RIGHT)
        self.assertEqual((made.width, made.inputs, made.registers, made.instructions), (4, 2, 3, RIGHT))
        made = Code(width=None, inputs="a", registers=[], instructions=0)
        self.assertEqual((made.width, made.inputs, made.registers, made.instructions), (None, "a", [], 0))

    def test_each_instruction(self):
        self.assert_run([("load", 1, 0), ("give", 1), ("load", 1, 1), ("give", 1)], (3, -4), ("done", (3, -4)))
        self.assert_run([("set", 2, 5), ("give", 2), ("give", 0)], (0,), ("done", (5, 0)))
        self.assert_run([("set", 0, 2), ("times", 1, 0, -3), ("give", 1), ("give", 0)], (0,), ("done", (-6, 2)))
        self.assert_run([("set", 0, 2), ("times", 0, 0, 3), ("give", 0)], (0,), ("done", (6,)))
        self.assert_run([("set", 0, 2), ("set", 1, 3), ("add", 0, 1), ("give", 0), ("give", 1)], (0,), ("done", (5, 3)))
        self.assert_run([("set", 0, 3), ("add", 0, 0), ("give", 0)], (0,), ("done", (6,)))
        self.assert_run([("set", 0, -3), ("bend", 0), ("give", 0)], (0,), ("done", (0,)))
        self.assert_run([("set", 0, 3), ("bend", 0), ("bend", 1), ("give", 0), ("give", 1)], (0,), ("done", (3, 0)))

    def test_start(self):
        self.assert_run([], (1,), ("done", ()))
        self.assert_run([("give", 0), ("give", 2), ("times", 1, 0, 7), ("give", 1)], (1,), ("done", (0, 0, 0)))
        self.assert_run([("give", 0), ("give", 0), ("set", 0, 1), ("give", 0)], (1,), ("done", (0, 0, 1)))

    def test_inputs_may_be_a_list(self):
        handed = [7, -8]
        self.assert_run([("load", 0, 0), ("load", 1, 1), ("give", 1), ("give", 0)], handed, ("done", (-8, 7)))
        self.assertEqual(handed, [7, -8])

    def test_just_fits(self):
        for width in (2, 3, 4, 8, 64, 199, 200):
            most, least = 2 ** (width - 1) - 1, -(2 ** (width - 1))
            self.assert_run([("load", 0, 0), ("load", 1, 1), ("give", 0), ("give", 1)], (most, least),
                            ("done", (most, least)), width)
            self.assert_run([("load", 0, 0), ("load", 1, 0)], (most + 1,), ("overflow", 0), width)
            self.assert_run([("load", 0, 1), ("load", 1, 0)], (least - 1, 1), ("overflow", 1), width)
            self.assert_run([("set", 0, most), ("set", 1, least), ("give", 0), ("give", 1)], (0,),
                            ("done", (most, least)), width)
            self.assert_run([("set", 0, most + 1)], (0,), ("overflow", 0), width)
            self.assert_run([("set", 0, 0), ("set", 0, least - 1)], (0,), ("overflow", 1), width)
            self.assert_run([("load", 0, 0), ("times", 1, 0, -1), ("give", 1)], (most,), ("done", (-most,)), width)
            self.assert_run([("load", 0, 0), ("times", 1, 0, -1), ("give", 1)], (least,), ("overflow", 1), width)
            self.assert_run([("load", 0, 0), ("set", 1, 1), ("add", 0, 1), ("give", 0)], (most - 1,),
                            ("done", (most,)), width)
            self.assert_run([("load", 0, 0), ("set", 1, 1), ("add", 0, 1), ("give", 0)], (most,), ("overflow", 2), width)
            self.assert_run([("load", 0, 0), ("set", 1, -1), ("add", 0, 1), ("give", 0)], (least + 1,),
                            ("done", (least,)), width)
            self.assert_run([("load", 0, 0), ("set", 1, -1), ("add", 0, 1), ("give", 0)], (least,), ("overflow", 2), width)
            self.assert_run([("load", 0, 0), ("bend", 0), ("give", 0)], (least,), ("done", (0,)), width)
            self.assert_run([("load", 0, 0), ("bend", 0), ("give", 0)], (most,), ("done", (most,)), width)

    def test_the_first_overflow_ends_the_run(self):
        self.assert_run([("give", 0), ("set", 0, 8), ("set", 0, 9), ("give", 0)], (0,), ("overflow", 1))

    def test_drawn(self):
        draw = Draw(310)
        ends = []
        for _ in range(300):
            width, registers, many = draw.integer(2, 6), draw.integer(1, 4), draw.integer(1, 3)
            most = 2 ** (width - 1)
            steps = []
            for _ in range(draw.integer(0, 12)):
                r, s, n = draw.integer(0, registers - 1), draw.integer(0, registers - 1), draw.integer(-most, most - 1)
                steps.append(draw.pick([("load", r, draw.integer(0, many - 1)), ("set", r, n), ("times", r, s, n),
                                        ("add", r, s), ("bend", r), ("give", r)]))
            inputs = tuple(draw.integer(-most, most - 1) for _ in range(many))
            made = Code(width, many, registers, tuple(steps))
            self.assertIsNone(check_code(made))
            self.assertEqual(run_code(made, inputs), run_by(width, registers, steps, inputs))
            ends.append(run_code(made, list(inputs))[0])
        self.assertGreater(ends.count("done"), 50)
        self.assertGreater(ends.count("overflow"), 50)


class CheckTest(unittest.TestCase):
    def assert_wrong(self, place, value):
        with self.assertRaises(BadCode) as caught:
            check_code(value)
        self.assertEqual(caught.exception.place, place)

    def test_right(self):
        made = code(*RIGHT)
        kept = copy.deepcopy(made.instructions)
        self.assertIsNone(check_code(made))
        self.assertEqual((made.width, made.inputs, made.registers, made.instructions), (4, 2, 3, kept))
        for width in (2, 200):
            self.assertIsNone(check_code(code(("set", 0, -(2 ** (width - 1))), ("set", 0, 2 ** (width - 1) - 1),
                                              width=width)))
        self.assertIsNone(check_code(Code(2, 1, 1, ())))
        self.assertIsNone(check_code(Code(200, 10000, 10000, (("load", 9999, 9999),))))

    def test_ahead_of_all(self):
        wrong = ("jump",)
        for value in STRANGE + [0, -1]:
            self.assert_wrong(-1, Code(value, 2, 3, (wrong,)))
            self.assert_wrong(-1, Code(4, value, 3, (wrong,)))
            self.assert_wrong(-1, Code(4, 2, value, (wrong,)))
        for value in (1, 201, 10**30):
            self.assert_wrong(-1, Code(value, 2, 3, ()))
        for value in (1.0, 10001, 10**30):
            self.assert_wrong(-1, Code(4, value, 3, ()))
            self.assert_wrong(-1, Code(4, 2, value, ()))
        for value in [None, [], list(RIGHT), "set", 0, True]:
            self.assert_wrong(-1, Code(4, 2, 3, value))
        for value in STRANGE + [(), RIGHT, (4, 2, 3, RIGHT)]:
            self.assert_wrong(-1, value)

    def test_registers_and_inputs(self):
        for value in [-1, 3, 10**30, True, False, None, 1.0, "1", (1,), [1]]:
            for wrong in [("load", value, 0), ("set", value, 0), ("times", value, 0, 0), ("times", 0, value, 0),
                          ("add", value, 0), ("add", 0, value), ("bend", value), ("give", value)]:
                self.assert_wrong(6, code(*RIGHT, wrong))
        for value in [-1, 2, True, False, None, 1.0, "1", (1,)]:
            self.assert_wrong(6, code(*RIGHT, ("load", 0, value)))
        self.assertIsNone(check_code(code(("load", 2, 1))))

    def test_integers(self):
        for width in (2, 4, 200):
            most, least = 2 ** (width - 1) - 1, -(2 ** (width - 1))
            for value in (most, least, 0):
                self.assertIsNone(check_code(code(("set", 0, value), ("times", 0, 0, value), width=width)))
            for value in [most + 1, least - 1, True, False, None, 0.0, "0", (0,), [0]]:
                self.assert_wrong(1, code(("bend", 0), ("set", 0, value), width=width))
                self.assert_wrong(1, code(("bend", 0), ("times", 0, 0, value), width=width))

    def test_none_of_the_table(self):
        for wrong in STRANGE + [(), 0, ("jump", 0), ("load",), ("load", 0), ("load", 0, 0, 0), ("set", 0), ("set", 0, 0, 0),
                                ("times", 0, 0), ("times", 0, 0, 0, 0), ("add", 0), ("add", 0, 0, 0), ("bend",),
                                ("bend", 0, 0), ("give",), ("give", 0, 0), ("Load", 0, 0), (b"load", 0, 0), (0, 0),
                                ["load", 0, 0], ("load", [0], 0), (None, 0), ("give", (0,)), (("give", 0),)]:
            self.assert_wrong(0, code(wrong, ("jump",)))
            self.assert_wrong(6, code(*RIGHT, wrong))

    def test_the_first_wrong_one_is_told(self):
        self.assert_wrong(2, code(("bend", 0), ("give", 0), ("give", 3), ("jump",), ("set", 0, 99)))
        self.assert_wrong(-1, code(("jump",), width=1))


if __name__ == "__main__":
    unittest.main()
