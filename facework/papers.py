"""What finding and looking have in common: the rows of a paper, and names that hide others (15)."""

from facework.reading import phrases_within


def laid_out(phrase):
    # A tuple for each row of a paper: its phrase, and at which rows its own phrases are.
    laid = []
    waiting = [(phrase, None)]
    while len(waiting) > 0:
        step = waiting.pop()
        place = len(laid)
        laid.append((step[0], []))
        if step[1] is not None:
            laid[step[1]][1].append(place)
        if isinstance(step[0], tuple):
            waiting.extend([(inner, place) for inner in reversed(phrases_within(step[0]))])
    return laid


def with_names(names, words, schemes):
    told = dict(names)
    told.update(dict(zip(words, schemes)))
    return told


def plain_schemes(kinds):
    return [((), kind) for kind in kinds]
