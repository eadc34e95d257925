"""Promise 0: score."""

import itertools
import unittest

from asking import ask, ask_last

CLUBS, DIAMONDS, HEARTS, SPADES, NO_TRUMPS = range(5)

# level, strain, doubled, tricks; then the score not vulnerable and vulnerable.
KNOWN = [
    # made, undoubled, part scores
    (1, CLUBS, 0, 7, 70, 70),
    (1, CLUBS, 0, 13, 190, 190),
    (1, DIAMONDS, 0, 8, 90, 90),
    (1, HEARTS, 0, 7, 80, 80),
    (2, SPADES, 0, 9, 140, 140),
    (1, NO_TRUMPS, 0, 7, 90, 90),
    (2, NO_TRUMPS, 0, 8, 120, 120),
    (2, NO_TRUMPS, 0, 9, 150, 150),
    (4, CLUBS, 0, 10, 130, 130),
    (4, DIAMONDS, 0, 11, 150, 150),
    (3, HEARTS, 0, 9, 140, 140),
    (3, SPADES, 0, 10, 170, 170),
    # games
    (3, NO_TRUMPS, 0, 9, 400, 600),
    (3, NO_TRUMPS, 0, 11, 460, 660),
    (4, HEARTS, 0, 10, 420, 620),
    (4, SPADES, 0, 13, 510, 710),
    (5, CLUBS, 0, 11, 400, 600),
    (5, DIAMONDS, 0, 12, 420, 620),
    (5, HEARTS, 0, 11, 450, 650),
    # slams
    (6, CLUBS, 0, 12, 920, 1370),
    (6, DIAMONDS, 0, 13, 940, 1390),
    (6, HEARTS, 0, 12, 980, 1430),
    (6, SPADES, 0, 13, 1010, 1460),
    (6, NO_TRUMPS, 0, 12, 990, 1440),
    (7, CLUBS, 0, 13, 1440, 2140),
    (7, DIAMONDS, 0, 13, 1440, 2140),
    (7, HEARTS, 0, 13, 1510, 2210),
    (7, SPADES, 0, 13, 1510, 2210),
    (7, NO_TRUMPS, 0, 13, 1520, 2220),
    # doubled
    (1, CLUBS, 1, 7, 140, 140),
    (2, CLUBS, 1, 8, 180, 180),
    (2, DIAMONDS, 1, 9, 280, 380),
    (3, CLUBS, 1, 9, 470, 670),
    (1, HEARTS, 1, 7, 160, 160),
    (2, SPADES, 1, 8, 470, 670),
    (2, SPADES, 1, 10, 670, 1070),
    (1, NO_TRUMPS, 1, 7, 180, 180),
    (1, NO_TRUMPS, 1, 9, 380, 580),
    (2, NO_TRUMPS, 1, 8, 490, 690),
    (3, NO_TRUMPS, 1, 9, 550, 750),
    (6, HEARTS, 1, 12, 1210, 1660),
    (7, NO_TRUMPS, 1, 13, 1790, 2490),
    # redoubled
    (1, CLUBS, 2, 7, 230, 230),
    (1, DIAMONDS, 2, 8, 430, 630),
    (2, CLUBS, 2, 8, 560, 760),
    (1, HEARTS, 2, 7, 520, 720),
    (1, SPADES, 2, 9, 920, 1520),
    (1, NO_TRUMPS, 2, 7, 560, 760),
    (3, NO_TRUMPS, 2, 9, 800, 1000),
    (6, CLUBS, 2, 13, 1580, 2230),
    (7, NO_TRUMPS, 2, 13, 2280, 2980),
    # missed
    (1, CLUBS, 0, 6, -50, -100),
    (4, SPADES, 0, 8, -100, -200),
    (3, NO_TRUMPS, 0, 0, -450, -900),
    (7, NO_TRUMPS, 0, 0, -650, -1300),
    (4, HEARTS, 1, 9, -100, -200),
    (4, DIAMONDS, 1, 8, -300, -500),
    (4, HEARTS, 1, 7, -500, -800),
    (4, CLUBS, 1, 6, -800, -1100),
    (4, NO_TRUMPS, 1, 5, -1100, -1400),
    (7, NO_TRUMPS, 1, 0, -3500, -3800),
    (1, SPADES, 2, 6, -200, -400),
    (1, SPADES, 2, 5, -600, -1000),
    (2, NO_TRUMPS, 2, 5, -1000, -1600),
    (2, CLUBS, 2, 4, -1600, -2200),
    (7, NO_TRUMPS, 2, 0, -7000, -7600),
]


def missed(missing, doubled, vulnerable):
    if doubled == 0:
        steps = [100] * 13 if vulnerable else [50] * 13
    elif vulnerable:
        steps = [200] + [300] * 12
    else:
        steps = [100, 200, 200] + [300] * 10
    return -sum(steps[:missing]) * (2 if doubled == 2 else 1)


def made(level, strain, doubled, vulnerable, over):
    minor = strain in (CLUBS, DIAMONDS)
    tricks = [20 if minor else 30] * level
    if strain == NO_TRUMPS:
        tricks[0] = 40
    points = sum(tricks) << doubled
    game = 500 if vulnerable else 300
    slam = {6: (500, 750), 7: (1000, 1500)}.get(level, (0, 0))[vulnerable]
    each = [20 if minor else 30, 200 if vulnerable else 100, 400 if vulnerable else 200][doubled]
    return points + (game if points >= 100 else 50) + slam + [0, 50, 100][doubled] + over * each


class ScoreTest(unittest.TestCase):
    def test_known_scores(self):
        for level, strain, doubled, tricks, not_vulnerable, vulnerable in KNOWN:
            with self.subTest(level=level, strain=strain, doubled=doubled, tricks=tricks):
                self.assertEqual(
                    ask(("score", level, strain, doubled, 0, tricks), ("score", level, strain, doubled, 1, tricks)),
                    [[0, not_vulnerable], [0, vulnerable]],
                )

    def test_every_contract(self):
        for level, strain, doubled, vulnerable in itertools.product(range(1, 8), range(5), range(3), range(2)):
            expected = []
            for tricks in range(14):
                over = tricks - 6 - level
                if over < 0:
                    expected.append([0, missed(-over, doubled, vulnerable)])
                else:
                    expected.append([0, made(level, strain, doubled, vulnerable, over)])
            calls = [("score", level, strain, doubled, vulnerable, tricks) for tricks in range(14)]
            self.assertEqual(ask(*calls), expected, (level, strain, doubled, vulnerable))

    def test_score_makes_no_entry(self):
        self.assertEqual(ask_last(("score", 4, SPADES, 0, 0, 10), ("sheet",)), [0])


if __name__ == "__main__":
    unittest.main()
