"""The code of a copy, and papers that it never overflows (points 806 to 810).

What the code does is listed once, as steps: an instruction, the number of the layer of sums that its
value belongs to (0 for the inputs), and the row and the offset that give the value of its place. An
instruction that is no place has None for the row and for the offset.
"""

from kinkmeasure.code import Code, fits, is_width, least_fitting, most_fitting
from kinkmeasure.copies import check_copied, copy_of, unit_below
from kinkmeasure.errors import BadScale
from kinkmeasure.judge import judge
from kinkmeasure.ratios import ONE, ZERO, is_integer, make, negative
from kinkmeasure.regions import check_region
from kinkmeasure.search import decide
from kinkmeasure.vectors import unit, zero


def whole(ratio, below):
    """Return the integer that a multiple of a unit is in this unit, of the below of the unit."""
    return ratio[0] * (below // ratio[1])


def first_help(copy):
    """Return the number of the help register: the inputs and the rows of all layers of sums are ahead."""
    return copy[0] + sum([len(layer[2]) for layer in copy[1] if layer[0] == "sums"])


def row_steps(row, offset, number, place, spare, units):
    """Return the steps for a row of a layer of sums.

    `place` is the register of the row, and `spare` has the first register of what the layer takes and
    the help register. `units` has the scale and the below of the unit of the layer.
    """
    first, helping = spare
    scale, below = units
    nothing = zero(len(row))
    found = [(("set", place, whole(offset, below)), number, nothing, offset)]
    so_far = nothing
    for index, weight in enumerate(row):
        if weight == ZERO:
            continue
        alone = nothing[:index] + (weight,) + nothing[index + 1 :]
        so_far = so_far[:index] + (weight,) + so_far[index + 1 :]
        found.append((("times", helping, first + index, whole(weight, scale)), number, alone, ZERO))
        found.append((("add", place, helping), number, so_far, offset))
    return found


def plain_steps(word, places, number):
    """Return the steps of instructions with one register each, which are no places."""
    return [((word, place), number, None, None) for place in places]


def steps_of(copy, grid, scale):
    """Return the steps for a copy, in order."""
    size, layers = copy
    helping = first_help(copy)
    found = [(("load", index, index), 0, unit(size, index), ZERO) for index in range(size)]
    first = 0
    used = size
    number = 0
    for layer in layers:
        if layer[0] == "bends":
            places = [first + index for index, flag in enumerate(layer[1]) if flag]
            found.extend(plain_steps("bend", places, number))
            continue
        number += 1
        units = (scale, unit_below(grid, scale, number))
        for index, row in enumerate(layer[1]):
            found.extend(row_steps(row, layer[2][index], number, used + index, (first, helping), units))
        first = used
        used += len(layer[2])
    return found + plain_steps("give", list(range(first, used)), number)


def code_with(copy, width, steps):
    """Return the code with these steps."""
    instructions = [step[0] for step in steps]
    return Code(width, copy[0], first_help(copy) + 1, tuple(instructions))


def network_of(copy, step):
    """Return the network that gives the value of a step that is a place."""
    _, number, row, offset = step
    ahead = copy[1][: max(0, 2 * number - 2)]
    return (copy[0], ahead + (("sums", (row,), (offset,)),))


def claim_for(step, grid, scale, width):
    """Return the claim that the value of a step fits, as two clauses."""
    below = unit_below(grid, scale, step[1])
    most = make(most_fitting(width), below)
    least = make(least_fitting(width), below)
    return ((((ONE,), most),), (((negative(ONE),), negative(least)),))


def integer_fits(instruction, width):
    """Tell whether the integer of an instruction fits, if it has one."""
    return instruction[0] not in ("set", "times") or fits(instruction[-1], width)


def check_compiled(network, grid, scale, width):
    """Raise what is due for a network that is compiled."""
    check_copied(network, grid, scale)
    if not is_width(width):
        raise BadScale()


def code_of(network, grid, scale, width):
    """Return the code of a network for a grid, a scale and a width (point 806)."""
    check_compiled(network, grid, scale, width)
    copy = copy_of(network, grid, scale)
    return code_with(copy, width, steps_of(copy, grid, scale))


def place_network(network, grid, scale, place):
    """Return the place network of a place; raise BadScale if there is no such place."""
    copy = copy_of(network, grid, scale)
    steps = steps_of(copy, grid, scale)
    if not is_integer(place) or not 0 <= place < len(steps) or steps[place][2] is None:
        raise BadScale()
    return network_of(copy, steps[place])


def compile_network(network, grid, scale, width, region):
    """Return the code and papers that it never overflows, or the first place that is too wide."""
    check_compiled(network, grid, scale, width)
    check_region(network[0], region)
    copy = copy_of(network, grid, scale)
    steps = steps_of(copy, grid, scale)
    papers = []
    for place, step in enumerate(steps):
        if step[2] is None:
            continue
        if not integer_fits(step[0], width):
            return ("wide", place, ())
        answer = decide(network_of(copy, step), region, claim_for(step, grid, scale, width))
        if answer[0] == "breaks":
            return ("wide", place, answer[1])
        papers.append(answer[1])
    return ("code", code_with(copy, width, steps), tuple(papers))


def is_same_integer(value, integer):
    """Tell whether a value is just this integer."""
    return is_integer(value) and value == integer


def is_same_instruction(value, instruction):
    """Tell whether a value is just this instruction, with integers in it and not True or False."""
    return isinstance(value, tuple) and value == instruction and all([is_integer(part) for part in value[1:]])


def is_same_code(value, code):
    """Tell whether a value is just this code."""
    if not isinstance(value, Code) or not isinstance(value.instructions, tuple):
        return False
    if not is_same_integer(value.width, code.width) or not is_same_integer(value.inputs, code.inputs):
        return False
    if not is_same_integer(value.registers, code.registers) or len(value.instructions) != len(code.instructions):
        return False
    return all([is_same_instruction(one, other) for one, other in zip(value.instructions, code.instructions)])


def judge_code(network, grid, scale, width, region, code, papers):
    """Tell whether the code is that of the network, and the papers show that it never overflows."""
    check_compiled(network, grid, scale, width)
    check_region(network[0], region)
    copy = copy_of(network, grid, scale)
    steps = steps_of(copy, grid, scale)
    if not is_same_code(code, code_with(copy, width, steps)):
        return False
    if not all([integer_fits(step[0], width) for step in steps]):
        return False
    places = [step for step in steps if step[2] is not None]
    if not isinstance(papers, tuple) or len(papers) != len(places):
        return False
    for step, pair in zip(places, papers):
        if not judge(network_of(copy, step), region, claim_for(step, grid, scale, width), pair):
            return False
    return True
