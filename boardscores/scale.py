"""The scale of IMPs, and how far a number comes on a scale of steps."""

STEPS = (
    20, 50, 90, 130, 170, 220, 270, 320, 370, 430, 500, 600,
    750, 900, 1100, 1300, 1500, 1750, 2000, 2250, 2500, 3000, 3500, 4000,
)


def steps_reached(steps, number):
    """How many of the steps are not above the number without its sign."""
    return len([step for step in steps if step <= abs(number)])


def imps(difference):
    """The IMPs that a difference brings, below 0 if it is below 0."""
    reached = steps_reached(STEPS, difference)
    return reached if difference >= 0 else -reached
