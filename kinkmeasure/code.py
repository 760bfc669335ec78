"""Programs of a small machine with integer registers (points 803 to 805)."""

from kinkmeasure.errors import BadCode
from kinkmeasure.ratios import is_integer

# The least and the greatest width, and the greatest number of inputs and of registers (point 803).
LEAST_WIDTH = 2
MOST_WIDTH = 200
MOST_PLACES = 10000

# The parts behind the word of each instruction: r is a register, i an input, n an integer.
PARTS = (("load", "ri"), ("set", "rn"), ("times", "rrn"), ("add", "rr"), ("bend", "r"), ("give", "r"))


class Code:
    """A program: the width of its registers, the numbers of inputs and registers, and the instructions."""

    def __init__(self, width, inputs, registers, instructions):
        self.width = width
        self.inputs = inputs
        self.registers = registers
        self.instructions = instructions


def is_width(value):
    """Tell whether a value can be the width of registers."""
    return is_integer(value) and LEAST_WIDTH <= value <= MOST_WIDTH


def is_number(value):
    """Tell whether a value can be the number of inputs or of registers."""
    return is_integer(value) and 1 <= value <= MOST_PLACES


def least_fitting(width):
    """Return the least integer that a register of a width holds."""
    return -(1 << (width - 1))


def most_fitting(width):
    """Return the greatest integer that a register of a width holds."""
    return (1 << (width - 1)) - 1


def fits(integer, width):
    """Tell whether a register of a width holds an integer."""
    return least_fitting(width) <= integer <= most_fitting(width)


def is_part(code, letter, value):
    """Tell whether a value can be this part of an instruction of the code."""
    if not is_integer(value):
        return False
    if letter == "n":
        return fits(value, code.width)
    return 0 <= value < (code.registers if letter == "r" else code.inputs)


def is_instruction(code, value):
    """Tell whether a value is an instruction that the code can have."""
    if not isinstance(value, tuple) or value == ():
        return False
    for word, letters in PARTS:
        if value[0] == word:
            parts = value[1:]
            if len(parts) != len(letters):
                return False
            return all([is_part(code, letter, part) for letter, part in zip(letters, parts)])
    return False


def check_code(code):
    """Raise BadCode with the place of the first wrong instruction, or -1 for what is wrong ahead of all."""
    if not isinstance(code, Code) or not is_width(code.width):
        raise BadCode(-1)
    if not is_number(code.inputs) or not is_number(code.registers) or not isinstance(code.instructions, tuple):
        raise BadCode(-1)
    for place, instruction in enumerate(code.instructions):
        if not is_instruction(code, instruction):
            raise BadCode(place)


def becomes(instruction, held, inputs):
    """Return the integer that the register of an instruction would become."""
    word = instruction[0]
    if word == "load":
        return inputs[instruction[2]]
    if word == "set":
        return instruction[2]
    if word == "times":
        return instruction[3] * held[instruction[2]]
    if word == "add":
        return held[instruction[1]] + held[instruction[2]]
    return max(0, held[instruction[1]])


def run_code(code, inputs):
    """Return the outputs of a run, or the place of the instruction at which an integer does not fit."""
    held = [0] * code.registers
    outputs = []
    for place, instruction in enumerate(code.instructions):
        if instruction[0] == "give":
            outputs.append(held[instruction[1]])
            continue
        integer = becomes(instruction, held, inputs)
        if not fits(integer, code.width):
            return ("overflow", place)
        held[instruction[1]] = integer
    return ("done", tuple(outputs))
