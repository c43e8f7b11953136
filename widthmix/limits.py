"""The limits of tables, prices, exponents and sessions."""

MAX_OUTLETS = 6
MAX_INLETS = 6
TOP = 10 ** 12
MAX_PRICE = 10 ** 6
MAX_EXPONENT = 10 ** 18
MAX_OPERATIONS = 60
MAX_BATCH = 20
LOG_SIZE = 100
