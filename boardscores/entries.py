"""The entries of a sheet, kept in a dict by their tables, and what is reckoned from them."""

from boardscores.ratio import lowest, rounded
from boardscores.results import datum_of, difference_imps, sum_of_means, versus


class RealEntry:
    """A result of a group."""

    def __init__(self, group, result):
        self.group = group
        self.result = result


class ArtificialEntry:
    """A per cent for each side."""

    def __init__(self, north_south, east_west):
        self.north_south = north_south
        self.east_west = east_west


def top_of(entries):
    """The top of a sheet, 0 if it has no entries."""
    return 2 * max(len(entries) - 1, 0)


def group_tables(entries, group):
    """The tables of the real entries of a group."""
    found = []
    for table, entry in entries.items():
        if isinstance(entry, RealEntry) and entry.group == group:
            found.append(table)
    return found


def other_results(entries, table):
    """The results of the other real entries of a real entry's group."""
    tables = group_tables(entries, entries[table].group)
    return [entries[other].result for other in tables if other != table]


def real_matchpoints(entries, table):
    """North and south's matchpoints of a real entry."""
    others = other_results(entries, table)
    mean_sum = sum_of_means(versus, entries[table].result, others)
    group_size = len(others) + 1
    stretched = (mean_sum[0] + mean_sum[1]) * len(entries)
    below = mean_sum[1] * group_size
    return lowest(stretched - below, below)


def matchpoints_with(entries, table, result):
    """What north and south's matchpoints of a real entry would be with this result."""
    changed = dict(entries)
    changed[table] = RealEntry(entries[table].group, result)
    return real_matchpoints(changed, table)


def matchpoints(entries, table):
    """Both sides' matchpoints of a table's entry: two fractions."""
    entry = entries[table]
    top = top_of(entries)
    if isinstance(entry, ArtificialEntry):
        return (lowest(entry.north_south * top, 100), lowest(entry.east_west * top, 100))
    north_south = real_matchpoints(entries, table)
    # A whole number less a fraction in lowest terms is in lowest terms too.
    east_west = (top * north_south[1] - north_south[0], north_south[1])
    return (north_south, east_west)


def share_of_top(points, top):
    """A real entry's matchpoints as a percentage of the top, in hundredths of a per cent."""
    if top == 0:
        return 5000
    return rounded(points[0] * 10000, points[1] * top)


def percentages(entries, table):
    """Both sides' percentages of a table's entry, in hundredths of a per cent."""
    entry = entries[table]
    if isinstance(entry, ArtificialEntry):
        return (100 * entry.north_south, 100 * entry.east_west)
    top = top_of(entries)
    points = matchpoints(entries, table)
    return (share_of_top(points[0], top), share_of_top(points[1], top))


def cross_imps(entries, table):
    """The cross IMPs of a real entry: a fraction."""
    others = other_results(entries, table)
    if len(others) == 0:
        return (0, 1)
    mean_sum = sum_of_means(difference_imps, entries[table].result, others)
    return lowest(mean_sum[0], mean_sum[1] * len(others))


def group_datum(entries, group, ends):
    """The datum of a group without so many results at each end, None if there is none."""
    return datum_of([entries[table].result for table in group_tables(entries, group)], ends)


def butler_imps(result, datum):
    """The mean of the IMPs of a result against a datum: a fraction."""
    mean = sum_of_means(difference_imps, result, [[(1, datum)]])
    return lowest(mean[0], mean[1])
