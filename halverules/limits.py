"""The limits that the document names."""

# The greatest rank of a function.
RANK = 16

# The most classes of a set of numbers.
STATES = 1024

# The greatest number at which a function is asked.
LARGEST = (10 ** 60) ** 5

# The most that several functions, or the parts of one, may be together.
TOGETHER = 64

# The greatest integer that may stand in a rule, a loop or a row of first values.
ENTRY = 10 ** 12

# The greatest factor in the recursion of costs, and the most first values.
FACTOR = 1000
FIRST_VALUES = 8

# The most variables of a loop.
VARIABLES = 6

# The greatest modulus.
MODULUS = 12

# The most different pairs of classes of two sets that are joined.
PAIRS = 4096

# The most functions whose relations are found together.
FUNCTIONS = 6

# The most letters of a name.
NAME = 8

# Parts of functions are looked at so far out at least before there are too many of them.
LOOKED_AT = 4096

# In a text of recurrences: the most functions, first values and terms, and how far a term may be from n.
RECURRENCES = 3
FIRSTS = 4
TERMS = 6
APART = 2

# The greatest k at which a row is asked, the most that it is shifted, where it may start, the greatest base of powers.
PLACE = 1000
SHIFT = 64
START = 10 ** 6
BASE = 100

# The most pairs of an equation.
EQUATED = 6

# For the checker: the most lines of a plain rule, numbers of a span, and rules of a relation.
PLAIN_LINES = 100
SPAN = 200
RELATED = 6
