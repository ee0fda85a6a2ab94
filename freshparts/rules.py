"""RULES that stop by what was: whether to wait for one more stretch hangs on the stretches so far."""
from freshparts.counts import many_by
from freshparts.ratios import ONE, is_whole, plus, ratio, times
from freshparts.rows import added, on_one_bottom
from freshparts.standing import mean_left

MOST_WITHIN = 4
MOST_RULES = 60


def is_rule(thing):
    """Tell of any thing whether it is a RULE."""
    waiting = [(thing, 0)]
    seen = 0
    while waiting:
        rule, within = waiting.pop()
        seen += 1
        if seen > MOST_RULES:
            return False
        if not is_stop(rule):
            if within == MOST_WITHIN or not is_go(rule):
                return False
            waiting.extend([(inner, within + 1) for inner in inner_rules(rule)])
    return True


def is_stop(thing):
    """Tell of any thing whether it is the RULE that stops."""
    return isinstance(thing, tuple) and len(thing) == 1 and thing[0] == "stop"


def is_go(thing):
    """Tell of any thing whether it goes on by rising cases, whatever stands at the places of the RULES in it."""
    if not isinstance(thing, tuple) or len(thing) != 3 or thing[0] != "go":
        return False
    cases = thing[1]
    if not isinstance(cases, tuple) or not all(is_case(case) for case in cases):
        return False
    return all(ahead[0] < case[0] for ahead, case in zip(cases, cases[1:]))


def is_case(thing):
    """Tell of any thing whether it is a pair with a stretch first."""
    return isinstance(thing, tuple) and len(thing) == 2 and is_whole(thing[0]) and thing[0] >= 1


def inner_rules(rule):
    """What stands at the places of the RULES in one that goes on, a list."""
    return [rule[2], *[case[1] for case in rule[1]]]


def rule_ends(life, rule):
    """Triples (many, beats, chance), rising: the chance to stop behind so many stretches that come to so many beats."""
    tops, bottom = on_one_bottom(life[0])
    # Each RULE that is come to behind so many stretches, with its chances by beats as whole numbers over scale.
    level = [(rule, {0: 1})]
    many, scale = 0, 1
    told = []
    while level:
        stopped = gathered([reached for inner, reached in level if is_stop(inner)])
        told.extend([(many, beats, ratio(stopped[beats], scale)) for beats in sorted(stopped)])
        going = [(inner, reached) for inner, reached in level if not is_stop(inner)]
        level = [branch for inner, reached in going for branch in branches(inner, reached, tops)]
        many += 1
        scale *= bottom
    return told


def gathered(told):
    """These chances by beats, added beat by beat; a dict."""
    sums = {}
    for reached in told:
        for beats in reached:
            sums[beats] = sums.get(beats, 0) + reached[beats]
    return sums


def branches(rule, reached, tops):
    """Each RULE behind one that goes on that is come to with a chance, with its chances by beats; a list."""
    left = [k for k, top in enumerate(tops, start=1) if top > 0]
    found = []
    for stretch, inner in rule[1]:
        if stretch in left:
            left.remove(stretch)
            found.append((inner, moved(reached, [stretch], tops)))
    if left:
        found.append((rule[2], moved(reached, left, tops)))
    return found


def moved(reached, stretches, tops):
    """The chances by beats behind one more of these stretches; a dict."""
    return gathered([{beats + k: reached[beats] * tops[k - 1] for beats in reached} for k in stretches])


def rule_means(life, rule):
    """The pair of the means of how many stretches a RULE waits for and of the beats that they come to."""
    ends = rule_ends(life, rule)
    many = added([times((stretches, 1), chance) for stretches, beats, chance in ends])
    return (many, added([times((beats, 1), chance) for stretches, beats, chance in ends]))


def passed(life, beat):
    """The pair of means of the rule that stops with the first one put behind the beat, of a FULL LIFE."""
    return (plus(ONE, many_by(life, beat)), plus((beat, 1), mean_left(life, beat)))
