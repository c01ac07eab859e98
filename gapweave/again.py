"""Stretches of a row that come again: told as twins, left out, and put back."""

from gapweave.errors import NoNote, NoSign
from gapweave.kinds import is_pair, is_whole
from gapweave.prices import are_signs, is_sign


def check_signs_alone(row):
    for place, sign in enumerate(row):
        if not is_sign(sign):
            raise NoSign(0, place)


# How many signs are the same from i and from j on, for each j, told of the numbers from i + 1 on.
def lengths_ahead(row, i, behind):
    lengths = []
    for j in range(len(row)):
        lengths.append(behind[j + 1] + 1 if row[i] == row[j] else 0)
    lengths.append(0)
    return lengths


def goes_on_ahead(row, i, j):
    return i > 0 and row[i - 1] == row[j - 1]


def full_twins(row):
    found = []
    lengths = [0] * (len(row) + 1)
    for i in range(len(row) - 1, -1, -1):
        lengths = lengths_ahead(row, i, lengths)
        # Backwards by j too, since the whole list is turned round at the end.
        for j in range(len(row) - 1, i, -1):
            if lengths[j] > 0 and not goes_on_ahead(row, i, j):
                found.append((i, j, lengths[j]))
    found.reverse()
    return found


def twins(row, least):
    check_signs_alone(row)
    return [twin for twin in full_twins(row) if twin[2] >= least]


def longest_twin(row):
    check_signs_alone(row)
    # A twin of the greatest length is full, or there would be a longer one.
    return max(full_twins(row), key=lambda twin: twin[2], default=None)


# The longest stretch at a place that has stood ahead of it, and where first; (0, 0) where none has.
def stood_ahead(row, place):
    start = 0
    many = 0
    while place + many < len(row):
        # From start on, since a longer stretch stands nowhere where a shorter one does not.
        found = row.find(row[place:place + many + 1], start, place)
        if found < 0:
            break
        start = found
        many = many + 1
    return (start, many)


def keep_sign(notes, sign):
    if len(notes) > 0 and isinstance(notes[-1], str):
        notes[-1] = notes[-1] + sign
    else:
        notes.append(sign)


def thinned(row, least):
    check_signs_alone(row)
    notes = []
    place = 0
    while place < len(row):
        note = stood_ahead(row, place)
        if note[1] >= max(least, 1):
            notes.append(note)
            place = place + note[1]
        else:
            keep_sign(notes, row[place])
            place = place + 1
    return notes


def is_kept(note):
    return isinstance(note, str) and len(note) > 0 and are_signs(note)


def lies_in(note, row):
    if not (is_pair(note) and is_whole(note[0]) and is_whole(note[1])):
        return False
    return note[0] >= 0 and note[1] >= 1 and note[0] + note[1] <= len(row)


def thickened(notes):
    row = ""
    for at, note in enumerate(notes):
        if is_kept(note):
            row = row + note
        elif lies_in(note, row):
            row = row + row[note[0]:note[0] + note[1]]
        else:
            raise NoNote(at)
    return row
