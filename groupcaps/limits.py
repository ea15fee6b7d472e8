"""The limits of systems, sessions and consoles."""

MAX_ITEMS = 6
MAX_STEPS = 5
MAX_GROUPS = 8
LIMIT = 10 ** 12
MAX_GAIN = 10 ** 6
LISTED = 1000
MAX_OPERATIONS = 60
MAX_BATCH = 20
LOG_SIZE = 100
