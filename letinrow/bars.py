"""What keeps one from having come behind another."""

from letinrow.people import both_ways, last_friend_place


def bar_words(known, row, one, other):
    """The rising list of the words by which one bars other; known is what both_ways told."""
    if one not in row or other not in row:
        return []
    place = row.index(one)
    there = row.index(other)
    host = last_friend_place(known, row[:place], one)
    words = []
    if host is None and place < there:
        words.append("behind")
    if host is not None and host < there < place:
        words.append("between")
    if place < there and (one, other) in known:
        words.append("friend")
    return words


def barred_in(friends, row):
    """A dict: of each one of the row the list of all whom it bars, in the row's order."""
    known = both_ways(friends)
    return {one: [other for other in row if bar_words(known, row, one, other)] for one in row}


def bars(friends, row, one, other):
    """The rising list of the words by which one bars other in the row."""
    return bar_words(both_ways(friends), row, one, other)
