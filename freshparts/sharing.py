"""Writes SHARE PAPERS and APART PAPERS of FULL KINDS, and tells the SHARES of kinds and what they gain for ever."""
from freshparts.kinds import chain, kind_life
from freshparts.means import mean
from freshparts.ratios import ONE, over, plus, times
from freshparts.rows import added
from freshparts.sharechecker import led_to


def share_told(kinds):
    """A SHARE PAPER of the KINDS where there is one, else an APART PAPER."""
    leads = led_to(kinds)
    for home in range(len(kinds)):
        ways = ways_home(leads, home)
        if len(ways) + 1 == len(kinds):
            return ("share", home, weights_of(chain(kinds), home), ways)
    return apart_told(leads)


def ways_home(leads, home):
    """A pair (kind, next) for each other kind from which home is led to, each next one home or ahead; a tuple."""
    reached = [home]
    ways = []
    grown = True
    while grown:
        grown = False
        for kind in range(len(leads)):
            followers = [follower for follower in leads[kind] if follower in reached]
            if kind not in reached and followers:
                reached.append(kind)
                ways.append((kind, followers[0]))
                grown = True
    return tuple(ways)


def apart_told(leads):
    """The APART PAPER of two sets that are never left; there are two where no kind is led to from all others."""
    groups = [reach(leads, kind) for kind in range(len(leads))]
    pairs = [(one, other) for one in groups for other in groups if not any([kind in other for kind in one])]
    one, other = pairs[0]
    return ("apart", one, other)


def reach(leads, kind):
    """The kinds that come, by and by, behind this one, and itself: a rising tuple."""
    reached = [kind]
    place = 0
    while place < len(reached):
        followers = leads[reached[place]]
        for follower in followers:
            if follower not in reached:
                reached.append(follower)
        place += 1
    return tuple(sorted(reached))


def weights_of(chances, home):
    """The only weights that the chain leaves as they are, where all kinds lead to home."""
    order = [home, *[kind for kind in range(len(chances)) if kind != home]]
    parts = parts_of([[chances[kind][follower] for follower in order] for kind in order])
    total = added(parts)
    return tuple([over(parts[order.index(kind)], total) for kind in range(len(order))])


def parts_of(flows):
    """How often each place is met for once that place 0 is, where all lead to place 0; a list."""
    if len(flows) == 1:
        return [ONE]
    *ahead, last = flows
    # The last place is left out: what goes through it, once or over and over, is put straight to those ahead.
    onward = added(last[:-1])
    often = [over(row[-1], onward) for row in ahead]
    straight = []
    for row, times_met in zip(ahead, often):
        straight.append([plus(chance, times(times_met, through)) for chance, through in zip(row[:-1], last)])
    parts = parts_of(straight)
    return [*parts, added([times(part, times_met) for part, times_met in zip(parts, often)])]


def shares(kinds):
    """For each kind for how many beats of all it stands, in the mean; None where that hangs on the first one."""
    paper = share_told(kinds)
    if paper[0] == "apart":
        return None
    spans = [times(weight, mean(kind_life(kinds, kind))) for kind, weight in enumerate(paper[2])]
    total = added(spans)
    return tuple([over(span, total) for span in spans])


def ever_gain(kinds, prices):
    """The gain a beat for ever by what is gained at each beat while a kind stands; None where there are no shares."""
    parts = shares(kinds)
    if parts is None:
        return None
    return added([times(part, price) for part, price in zip(parts, prices)])
