"""The calls on one board's sheet, and what they answer."""

from boardscores.contract import contract_score, north_south_score
from boardscores.entries import ArtificialEntry, RealEntry, butler_imps, cross_imps, group_datum
from boardscores.entries import matchpoints, matchpoints_with, percentages, top_of
from boardscores.forms import in_form, read_calls
from boardscores.results import paired
from boardscores.scale import imps
from boardscores.teams import match_totals, places, rises, victory_points

MOST_ENTRIES = 60

DONE = 0
OUT_OF_FORM = -1
NO_ENTRY = -2
ARTIFICIAL = -3
NO_DATUM = -3
NO_DATUM_TO_COMPARE = -4
NOT_RISING = -5
FULL = -6


def put(entries, table, entry):
    """Makes this the table's entry, in the place of an older one; tells whether there was room."""
    if table not in entries and len(entries) >= MOST_ENTRIES:
        return FULL
    entries[table] = entry
    return DONE


def real_or_refusal(entries, table):
    """DONE if the table's entry is real, else what says that it is not."""
    if table not in entries:
        return NO_ENTRY
    return ARTIFICIAL if isinstance(entries[table], ArtificialEntry) else DONE


def answer_score(entries, plain, row):
    return [DONE, contract_score(plain[0], plain[1], plain[2], plain[3], plain[4])]


def answer_enter(entries, plain, row):
    return [put(entries, plain[0], RealEntry(plain[1], paired(row)))]


def answer_play(entries, plain, row):
    score = north_south_score(plain[2], plain[3], plain[4], plain[5], plain[6], plain[7])
    if put(entries, plain[0], RealEntry(plain[1], [(1, score)])) == FULL:
        return [FULL]
    return [DONE, score]


def answer_pass(entries, plain, row):
    return [put(entries, plain[0], RealEntry(plain[1], [(1, 0)]))]


def answer_art(entries, plain, row):
    return [put(entries, plain[0], ArtificialEntry(plain[1], plain[2]))]


def answer_remove(entries, plain, row):
    if plain[0] not in entries:
        return [NO_ENTRY]
    entries.pop(plain[0])
    return [DONE]


def answer_mp(entries, plain, row):
    if plain[0] not in entries:
        return [NO_ENTRY]
    points = matchpoints(entries, plain[0])
    return [DONE, points[0][0], points[0][1], points[1][0], points[1][1]]


def answer_percent(entries, plain, row):
    if plain[0] not in entries:
        return [NO_ENTRY]
    both = percentages(entries, plain[0])
    return [DONE, both[0], both[1]]


def answer_sheet(entries, plain, row):
    answer = [DONE]
    for table in sorted(entries):
        north_south = matchpoints(entries, table)[0]
        answer.extend([table, north_south[0], north_south[1]])
    return answer


def answer_cross(entries, plain, row):
    refusal = real_or_refusal(entries, plain[0])
    if refusal != DONE:
        return [refusal]
    points = cross_imps(entries, plain[0])
    return [DONE, points[0], points[1]]


def answer_datum(entries, plain, row):
    datum = group_datum(entries, plain[0], plain[1])
    return [NO_DATUM] if datum is None else [DONE, datum]


def answer_butler(entries, plain, row):
    refusal = real_or_refusal(entries, plain[0])
    if refusal != DONE:
        return [refusal]
    entry = entries[plain[0]]
    datum = group_datum(entries, entry.group, plain[1])
    if datum is None:
        return [NO_DATUM_TO_COMPARE]
    points = butler_imps(entry.result, datum)
    return [DONE, points[0], points[1]]


def answer_imps(entries, plain, row):
    return [DONE, imps(plain[0])]


def answer_match(entries, plain, row):
    totals = match_totals(row)
    return [DONE, totals[0] - totals[1], totals[0], totals[1]]


def answer_vp(entries, plain, row):
    if not rises(row):
        return [NOT_RISING]
    points = victory_points(plain[0], row)
    return [DONE, points[0], points[1]]


def answer_ranks(entries, plain, row):
    answer = [DONE]
    for place, sharing in places(row):
        answer.extend([place, sharing])
    return answer


def answer_result(entries, plain, row):
    if plain[0] not in entries:
        return [NO_ENTRY]
    entry = entries[plain[0]]
    if isinstance(entry, ArtificialEntry):
        return [DONE, 0, entry.north_south, entry.east_west]
    answer = [DONE, 1, entry.group]
    for weight, score in entry.result:
        answer.extend([weight, score])
    return answer


def answer_top(entries, plain, row):
    return [DONE, len(entries), top_of(entries)]


def answer_would(entries, plain, row):
    refusal = real_or_refusal(entries, plain[0])
    if refusal != DONE:
        return [refusal]
    points = matchpoints_with(entries, plain[0], paired(row))
    return [DONE, points[0], points[1]]


ANSWERERS = {
    0: answer_score,
    1: answer_enter,
    2: answer_play,
    3: answer_pass,
    4: answer_art,
    5: answer_remove,
    6: answer_mp,
    7: answer_percent,
    8: answer_sheet,
    9: answer_cross,
    10: answer_datum,
    11: answer_butler,
    12: answer_imps,
    13: answer_match,
    14: answer_vp,
    15: answer_ranks,
    16: answer_result,
    17: answer_top,
    18: answer_would,
}


def answers(calls):
    """For each call in the list, on a sheet without entries: how many numbers are answered, then these."""
    entries = {}
    told = []
    for place, plain, row in read_calls(calls):
        answer = [OUT_OF_FORM]
        if in_form(place, plain, row):
            answer = ANSWERERS[place](entries, plain, row)
        told.append(len(answer))
        told.extend(answer)
    return told
