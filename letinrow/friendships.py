"""All friendships that explain days: a least and a greatest one, or a chain that shows that there are none."""

from letinrow.days import comings_of, told_pairs


def pairs_of_comers(days):
    """The rising list of all pairs of people who come, on whatever day."""
    people = sorted(set([who for row, who, place in comings_of(days)]))
    return [(one, other) for one in people for other in people if one < other]


def makers_from(starts, makes):
    """A dict, the nearest first, of all pairs that starts lead to: the one that made each, None of starts."""
    makers = {pair: None for pair in starts}
    edge = starts
    while edge:
        found = []
        for pair, made in makes:
            if pair in edge and made not in makers:
                makers[made] = pair
                found.append(made)
        edge = found
    return makers


def turned(makes):
    """Each of makes the other way about: what isn't made has none of its makers either."""
    return [(made, pair) for pair, made in makes]


def chain_to(makers, last):
    """The list of pairs, each made by the one ahead of it, that leads to that last one."""
    chain = [last]
    while makers[chain[-1]] is not None:
        chain.append(makers[chain[-1]])
    return chain[::-1]


def friendships(days):
    """("friends", the least FRIENDS that explain the days, the greatest), or ("clash", a shortest chain)."""
    must, mustnt, makes = told_pairs(days)
    least = makers_from(must, makes)
    clashing = [pair for pair in least if pair in mustnt]
    if clashing:
        return ("clash", chain_to(least, clashing[0]))
    barred = makers_from(mustnt, turned(makes))
    greatest = [pair for pair in pairs_of_comers(days) if pair not in barred]
    return ("friends", tuple(sorted(least)), tuple(greatest))


def shows_clash(days, thing):
    """Whether a thing is a chain of pairs from one of must to one of mustnt, each made by the one ahead."""
    must, mustnt, makes = told_pairs(days)
    if not isinstance(thing, list) or not thing:
        return False
    if thing[0] not in must or thing[-1] not in mustnt:
        return False
    return all([link in makes for link in zip(thing, thing[1:])])


def how_many_closed(pairs, makes):
    """How many choices of these pairs have with the one of makes the other, where that is one of them, too."""
    if not pairs:
        return 1
    among = [(pair, made) for pair, made in makes if pair in pairs and made in pairs]
    # Pairs that nothing leads to from the first one, neither way about, are chosen whatever is done here.
    group = makers_from(pairs[:1], among + turned(among))
    apart = [pair for pair in pairs if pair not in group]
    taken = makers_from(pairs[:1], among)
    left_out = makers_from(pairs[:1], turned(among))
    with_first = how_many_closed([pair for pair in group if pair not in taken], among)
    without_first = how_many_closed([pair for pair in group if pair not in left_out], among)
    return (with_first + without_first) * how_many_closed(apart, among)


def how_many_between(days):
    """How many FRIENDS explain the days, of pairs of people who come."""
    told = friendships(days)
    if told[0] == "clash":
        return 0
    word, least, greatest = told
    must, mustnt, makes = told_pairs(days)
    return how_many_closed([pair for pair in greatest if pair not in least], makes)
