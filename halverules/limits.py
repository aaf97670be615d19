"""The limits that the document names."""

# The greatest rank of a function.
RANK = 16

# The most classes of a set of numbers.
STATES = 1024

# The greatest number at which a function is asked.
LARGEST = (10 ** 60) ** 5

# The most that several functions, or the parts of one, may be together.
TOGETHER = 64

# The greatest integer that may stand in a rule, a loop or a row of first values.
ENTRY = 10 ** 12

# The greatest factor in the recursion of costs, and the most first values.
FACTOR = 1000
FIRST_VALUES = 8

# The most variables of a loop.
VARIABLES = 6

# The greatest modulus.
MODULUS = 12

# The most different pairs of classes of two sets that are joined.
PAIRS = 4096

# The most functions whose relations are found together.
FUNCTIONS = 6
