"""The limits that the document names."""

# The greatest rank of a function.
RANK = 16

# The most classes of a set of numbers.
STATES = 1024

# The greatest number at which a function is asked.
LARGEST = (10 ** 60) ** 5

# The most that several functions, or the parts of one, may be together.
TOGETHER = 64
