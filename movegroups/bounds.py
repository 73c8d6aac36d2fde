"""The bounds that the points tell."""

# How many names a making of cosets may make, where nothing else is said.
MOST = 2000

MOST_POINTS = 60
MOST_LETTERS = 6
MOST_WORD = 400
MOST_TIMES = 20
MOST_RULES = 300
MOST_SUBS = 8
MOST_NAMES = 5000
MOST_LEASTS = 240
MOST_ORDER = 48
# Up to this order all parts are looked for, and all groups, and up to the next one all maps.
MOST_SEARCHED = 24
MOST_MAPPED = 12
MOST_MOVES = 100
# All primes by which a table of one member at least may be extended.
PRIMES = (2, 3, 5, 7, 11, 13, 17, 19, 23, 29, 31, 37, 41, 43, 47)
# Up to these orders there are papers of all parts, and of all groups.
MOST_PARTED = 16
MOST_LISTED = 8
MOST_NAME = 8
