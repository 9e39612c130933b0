"""Who is whose friend, and who stands in a row."""

LONGEST_NAME = 8


def is_name(thing):
    """Whether a thing is a NAME."""
    if not isinstance(thing, str) or not 1 <= len(thing) <= LONGEST_NAME:
        return False
    # islower and isalpha would take letters of other alphabets, too.
    return all(["a" <= letter <= "z" for letter in thing])


def is_number(thing):
    """Whether a thing is a number: True and False are none."""
    return isinstance(thing, int) and not isinstance(thing, bool)


def is_friend_pair(thing):
    """Whether a thing is a pair of NAMEs, the first below the second."""
    if not isinstance(thing, tuple) or len(thing) != 2:
        return False
    return all([is_name(who) for who in thing]) and thing[0] < thing[1]


def is_friends(thing):
    """Whether a thing is FRIENDS: a rising tuple of unlike pairs."""
    if not isinstance(thing, tuple) or not all([is_friend_pair(pair) for pair in thing]):
        return False
    return all([pair < later for pair, later in zip(thing, thing[1:])])


def is_row(thing):
    """Whether a thing is a ROW: a tuple of unlike NAMEs."""
    if not isinstance(thing, tuple) or not all([is_name(who) for who in thing]):
        return False
    return len(set(thing)) == len(thing)


def pair_of(one, other):
    """The pair of two unlike NAMEs, the lesser one first."""
    return (one, other) if one < other else (other, one)


def both_ways(friends):
    """A dict with each pair of friends either way about as a key."""
    known = {}
    for one, other in friends:
        known[(one, other)] = True
        known[(other, one)] = True
    return known


def are_friends(friends, one, other):
    """Whether these two are friends."""
    return (one, other) in both_ways(friends)


def friends_of(friends, who):
    """The rising list of who's friends."""
    return sorted([other for one, other in both_ways(friends) if one == who])


def last_friend_place(known, row, who):
    """The place of the last one in the row who is a friend of who, None where there's none.

    known is what both_ways told.
    """
    places = [place for place, other in enumerate(row) if (who, other) in known]
    return places[-1] if places else None
