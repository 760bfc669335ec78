"""The limits that the program keeps."""

# The greatest number of inputs of a network (point 200).
MOST_INPUTS = 1000

# The greatest number of digits of a number that is written (point 104).
MOST_FIGURES = 600
