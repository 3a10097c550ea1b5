"""Integers that follow no plain rule, the same ones in each run.

Almost all helpers serve, but those that follow a rule may meet a team that follows the same one.
"""

TIMES = 6364136223846793005
MORE = 1442695040888963407
MODULUS = 18446744073709551616
LOW_PART = 8589934592


def scattered(many, start, most):
    """So many integers from -most to most, others for another start."""
    found = []
    state = start
    for _ in range(many):
        state = (state * TIMES + MORE) % MODULUS
        # What is lowest in the state comes back soon.
        found.append(state // LOW_PART % (2 * most + 1) - most)
    return found


def scattered_tables(many, tall, wide, start):
    """So many tables of these sides of such integers; they grow with the start."""
    numbers = scattered(many * tall * wide, start, start + 1)
    rows = [numbers[at:at + wide] for at in range(0, len(numbers), wide)]
    return [rows[at:at + tall] for at in range(0, len(rows), tall)]
