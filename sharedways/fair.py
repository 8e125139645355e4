"""The fair shares of a net, and the papers by which none of them grows but at the cost of one that is no greater."""

from sharedways.fractions import NOUGHT, is_more, times, total
from sharedways.nets import is_row, is_triple, need_net
from sharedways.shares import brings, by_wants, is_paper, raised, worth


# All wares whose share is not settled rise alike as far as they can; those that then can't rise even alone are
# settled. There is always one, since half-way between flows in which each rises all would rise.
def fair_shares(net):
    need_net(net)
    settled = [None for ware in net[2]]
    papers = [None for ware in net[2]]
    flow = []
    while None in settled:
        told = raised(net, settled)
        flow = told[1]
        level = [told[0] if share is None else share for share in settled]
        papers = [barring_paper(net, level, number) if settled[number] is None else papers[number]
                  for number in range(len(level))]
        settled = [None if paper is None else share for paper, share in zip(papers, level)]
    return (settled, flow, papers)


# None if the ware can rise above the level while the others stay. A ware that will rise above it has the height
# nought in this paper, since it could rise here too and all would still be as great as can be.
def barring_paper(net, level, number):
    told = raised(net, [None if each == number else share for each, share in enumerate(level)])
    return told[2] if told[0] == level[number] else None


def shows_fair(net, triple):
    need_net(net)
    return (
        is_triple(triple)
        and is_row(triple[0], len(net[2]))
        and brings(net, triple[1], triple[0])
        and isinstance(triple[2], list)
        and len(triple[2]) == len(net[2])
        and all([bars(net, triple[0], paper, number) for number, paper in enumerate(triple[2])])
    )


def bars(net, shares, paper, number):
    return (
        is_paper(net, paper)
        and is_more(paper[1][number], NOUGHT)
        and not any([is_more(share, shares[number]) and is_more(height, NOUGHT)
                     for share, height in zip(shares, paper[1])])
        and worth(net, paper[0]) == brought_worth(net, shares, paper[1])
    )


def brought_worth(net, shares, heights):
    return total([times(height, amount) for height, amount in zip(heights, by_wants(net, shares))])
