"""The calls on one board's sheet, and what they answer."""

from boardscores.contract import contract_score, north_south_score
from boardscores.entries import ArtificialEntry, RealEntry, cross_imps, matchpoints, percentages
from boardscores.forms import in_form, read_calls
from boardscores.results import paired

MOST_ENTRIES = 60

DONE = 0
OUT_OF_FORM = -1
NO_ENTRY = -2
ARTIFICIAL = -3
FULL = -6


def put(entries, table, entry):
    """Makes this the table's entry, in the place of an older one; tells whether there was room."""
    if table not in entries and len(entries) >= MOST_ENTRIES:
        return FULL
    entries[table] = entry
    return DONE


def answer_score(entries, plain, row):
    return [DONE, contract_score(plain[0], plain[1], plain[2], plain[3], plain[4])]


def answer_enter(entries, plain, row):
    return [put(entries, plain[0], RealEntry(plain[1], paired(row)))]


def answer_play(entries, plain, row):
    score = north_south_score(plain[2], plain[3], plain[4], plain[5], plain[6], plain[7])
    if put(entries, plain[0], RealEntry(plain[1], [(1, score)])) == FULL:
        return [FULL]
    return [DONE, score]


def answer_pass(entries, plain, row):
    return [put(entries, plain[0], RealEntry(plain[1], [(1, 0)]))]


def answer_art(entries, plain, row):
    return [put(entries, plain[0], ArtificialEntry(plain[1], plain[2]))]


def answer_remove(entries, plain, row):
    if plain[0] not in entries:
        return [NO_ENTRY]
    entries.pop(plain[0])
    return [DONE]


def answer_mp(entries, plain, row):
    if plain[0] not in entries:
        return [NO_ENTRY]
    points = matchpoints(entries, plain[0])
    return [DONE, points[0][0], points[0][1], points[1][0], points[1][1]]


def answer_percent(entries, plain, row):
    if plain[0] not in entries:
        return [NO_ENTRY]
    both = percentages(entries, plain[0])
    return [DONE, both[0], both[1]]


def answer_sheet(entries, plain, row):
    answer = [DONE]
    for table in sorted(entries):
        north_south = matchpoints(entries, table)[0]
        answer.extend([table, north_south[0], north_south[1]])
    return answer


def answer_cross(entries, plain, row):
    if plain[0] not in entries:
        return [NO_ENTRY]
    if isinstance(entries[plain[0]], ArtificialEntry):
        return [ARTIFICIAL]
    points = cross_imps(entries, plain[0])
    return [DONE, points[0], points[1]]


ANSWERERS = {
    0: answer_score,
    1: answer_enter,
    2: answer_play,
    3: answer_pass,
    4: answer_art,
    5: answer_remove,
    6: answer_mp,
    7: answer_percent,
    8: answer_sheet,
    9: answer_cross,
}


def answers(calls):
    """For each call in the list, on a sheet without entries: how many numbers are answered, then these."""
    entries = {}
    told = []
    for place, plain, row in read_calls(calls):
        answer = [OUT_OF_FORM]
        if in_form(place, plain, row):
            answer = ANSWERERS[place](entries, plain, row)
        told.append(len(answer))
        told.extend(answer)
    return told
