"""Papers changed at one place, for the looker to tell apart."""


def other_kinds(choice, kind):
    """Kinds that are not this one, near it and far from it."""
    told = ["num", "bit", "?0", "?1", "?new", ("->", kind, kind), ("list", kind), ("list", "?0"), ("->", "num", "num")]
    if isinstance(kind, tuple):
        told += list(kind[1:])
        told.append(kind[:1] + tuple(reversed(kind[1:])))
        for place in range(1, len(kind)):
            for inner in other_kinds(choice, kind[place])[:5]:
                told.append(kind[:place] + (inner,) + kind[place + 1:])
    return [one for one in told if one != kind]


def other_givens(choice, phrase, kind, given):
    told = [(), ("num",), ("?0",), ("?9",), (kind, kind), ((), ()), ((), (kind,)), ((), (("->", "num", "num"),))]
    told += [None, 0, "num", "?0", [], list(given), given + ("?8",), given[:-1], given[1:], given + given, (given,), (5,)]
    if len(given) == 2:
        told.append((given[1], given[0]))
    if isinstance(phrase, tuple) and phrase[0] == "ring":
        own, kinds = given
        told += [(own[:-1], kinds), (own + own, kinds), (own + ("?8",), kinds), (own, kinds[:-1]), (own, kinds + kinds[:1])]
        told += [(own, tuple(reversed(kinds))), (own, list(kinds)), (list(own), kinds), (own, kinds, ()), (own,), kinds]
        told += [(own + ("x",), kinds), (own, ("num",) + kinds[1:]), (own, ("?0",) + kinds[1:]), (None, kinds), (own, None)]
    elif given:
        told.append(given[:-1] + (choice.choice(("num", "?0", "?8", "bit", 5, None, ("list",), ("->", "num"))),))
    return [one for one in told if one != given]


def changed_papers(choice, phrases, paper, most):
    """Papers with one row changed, exchanged, gone or added; at most so many."""
    told = [paper[:-1], paper[1:], paper + [("num", ())], paper + paper[-1:], []]
    for place, (kind, given) in enumerate(paper):
        rows = [(one, given) for one in other_kinds(choice, kind)]
        rows += [(kind, one) for one in other_givens(choice, phrases[place], kind, given)]
        told += [paper[:place] + [row] + paper[place + 1:] for row in rows]
        other = choice.randrange(len(paper))
        turned = list(paper)
        turned[place], turned[other] = turned[other], turned[place]
        told.append(turned)
    return told if len(told) <= most else choice.sample(told, most)
