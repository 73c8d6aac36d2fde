"""The bounds that the points tell."""

# How many names a making of cosets may make, where nothing else is said.
MOST = 2000

MOST_POINTS = 60
MOST_LETTERS = 6
MOST_WORD = 400
MOST_TIMES = 20
MOST_RULES = 300
MOST_SUBS = 8
MOST_NAMES = 5000
MOST_LEASTS = 240
MOST_ORDER = 48
