"""Days of comings, each to a place that was seen, and what each coming tells of friends."""

from letinrow.coming import coming_place
from letinrow.errors import BadDay
from letinrow.people import both_ways, pair_of


def can_be(deed, row, been):
    """Whether a deed of a day can be done to the row, been being those who came that day."""
    if deed[0] == "serve":
        return len(row) > 0
    word, who, place = deed
    if who in been:
        return False
    # Nobody is let in ahead of the first one.
    return 0 < place <= len(row) if row else place == 0


def walked(day):
    """The pair of a list and a number: the comings of a day till the first deed that can't be, and that deed.

    A coming is a triple (row, who, place), the row that who came to. Where all can be, None is the number.
    """
    row = ()
    comings = []
    for number, deed in enumerate(day):
        if not can_be(deed, row, [who for before, who, place in comings]):
            return (comings, number)
        if deed[0] == "serve":
            row = row[1:]
        else:
            word, who, place = deed
            comings.append((row, who, place))
            row = row[:place] + (who,) + row[place:]
    return (comings, None)


def first_bad(days):
    """The pair (day, deed) of the first deed that can't be, None where there's none."""
    for number, day in enumerate(days):
        comings, deed = walked(day)
        if deed is not None:
            return (number, deed)
    return None


def comings_of(days):
    """The list of all comings; refused with BadDay."""
    bad = first_bad(days)
    if bad is not None:
        raise BadDay(bad[0], bad[1])
    return [coming for day in days for coming in walked(day)[0]]


def explains(friends, days):
    """Whether by these friends all come to stand where they did."""
    known = both_ways(friends)
    return all([coming_place(known, row, who) == place for row, who, place in comings_of(days)])


def told_pairs(days):
    """The triple (must, mustnt, makes) of rising lists: who are friends, who aren't, what makes what."""
    comings = comings_of(days)
    must = [pair_of(who, row[place - 1]) for row, who, place in comings if place < len(row)]
    mustnt = [pair_of(who, other) for row, who, place in comings for other in row[place:]]
    to_the_end = [(row, who) for row, who, place in comings if place == len(row)]
    makes = [(pair_of(who, other), pair_of(who, row[-1])) for row, who in to_the_end for other in row[:-1]]
    return (sorted(set(must)), sorted(set(mustnt)), sorted(set(makes)))
