"""The scale of IMPs."""

STEPS = (
    20, 50, 90, 130, 170, 220, 270, 320, 370, 430, 500, 600,
    750, 900, 1100, 1300, 1500, 1750, 2000, 2250, 2500, 3000, 3500, 4000,
)


def imps(difference):
    """The IMPs that a difference brings, below 0 if it is below 0."""
    reached = len([step for step in STEPS if step <= abs(difference)])
    return reached if difference >= 0 else -reached
