"""Results: lists of outcomes, each a pair of its weight and its score for north and south."""

from boardscores.ratio import rounded_to_ten
from boardscores.scale import imps


def paired(row):
    """The outcomes of a row in which each has its weight and then its score."""
    return [(row[at], row[at + 1]) for at in range(0, len(row), 2)]


def versus(first, second):
    """2 if the first score is more, 1 if they are equal, 0 if it is less."""
    if first > second:
        return 2
    return 1 if first == second else 0


def difference_imps(first, second):
    """The IMPs of the first score less the second."""
    return imps(first - second)


def weight_sum(result):
    """The sum of a result's weights."""
    return sum([weight for weight, score in result])


def score_sum(result):
    """The sum of a result's weights times scores."""
    return sum([weight * score for weight, score in result])


def weighted_total(measure, first, second):
    """The measure of each outcome's score of the first with each of the second, times both weights, added up."""
    total = 0
    for first_weight, first_score in first:
        for second_weight, second_score in second:
            total += measure(first_score, second_score) * first_weight * second_weight
    return total


def sum_of_means(measure, result, others):
    """The sum of the means of the measure of the result with each of the others, as two numbers not yet reduced."""
    # Reducing after each step would cost far more than once at the end.
    above = 0
    below = 1
    for other in others:
        weights = weight_sum(other)
        above = above * weights + weighted_total(measure, result, other) * below
        below = below * weights
    return (above, below * weight_sum(result))


def weight_product(results):
    """The product of the sums of weights of all the results."""
    product = 1
    for result in results:
        product *= weight_sum(result)
    return product


def datum_of(results, ends):
    """The datum of the results without so many at each end, None if there is none."""
    if len(results) <= 2 * ends:
        return None
    # Over one number below the line for all, the means are in the order of the whole numbers above it.
    below = weight_product(results)
    means = sorted([score_sum(result) * (below // weight_sum(result)) for result in results])
    kept = means[ends:len(means) - ends]
    return rounded_to_ten(sum(kept), below * len(kept))
