"""Pages of a book: what the deeds that stand have come to. A page is never changed; each deed makes a new one."""

from letinrow.coming import host_place
from letinrow.errors import Bare, Gone, Known, Strange
from letinrow.people import both_ways, pair_of


class Page:
    """FRIENDS; of each one in the row a triple (NAME, host, how many were let in ahead of it since); those
    served, in order; those in the row, in the order in which they came."""

    def __init__(self, pairs, standing, gone, comers):
        self.pairs = pairs
        self.standing = standing
        self.gone = gone
        self.comers = comers

    def people(self):
        """The ROW."""
        return tuple([who for who, host, back in self.standing])

    def triple_of(self, who):
        """The triple of one who stands there."""
        for triple in self.standing:
            if triple[0] == who:
                return triple
        raise Gone(who)


def bare_page():
    """Nobody there, nobody friends."""
    return Page((), (), (), ())


def with_friends(page, one, other):
    """The page when these two have become friends."""
    pair = pair_of(one, other)
    if pair in page.pairs:
        raise Known(pair)
    return Page(tuple(sorted(page.pairs + (pair,))), page.standing, page.gone, page.comers)


def with_parted(page, one, other):
    """The page when these two are friends no more."""
    pair = pair_of(one, other)
    if pair not in page.pairs:
        raise Strange(pair)
    pairs = tuple([known for known in page.pairs if known != pair])
    return Page(pairs, page.standing, page.gone, page.comers)


def with_comer(page, who):
    """The page when who has come; refused with Here."""
    row = page.people()
    host = host_place(both_ways(page.pairs), row, who)
    if host is None:
        standing = page.standing + ((who, None, 0),)
    else:
        behind = tuple([(other, whom, back + 1) for other, whom, back in page.standing[host + 1:]])
        standing = page.standing[:host + 1] + ((who, row[host], 0),) + behind
    return Page(page.pairs, standing, page.gone, page.comers + (who,))


def with_first_served(page):
    """The page when the first one has gone."""
    if not page.standing:
        raise Bare()
    first = page.standing[0][0]
    comers = tuple([who for who in page.comers if who != first])
    return Page(page.pairs, page.standing[1:], page.gone + (first,), comers)
