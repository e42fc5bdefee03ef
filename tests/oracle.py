"""What the document's definitions say, word by word, told apart from the program: for small books, and slow."""

from itertools import combinations, product
from random import Random

from earlyorlate.books import Book
from tests.helper import KINDS

CONTRARY = {"early": "late", "late": "early"}


def walks(book, start, end, most_gaps):
    """All ways of at most so many gaps."""
    found = []
    begun = [((), start)]
    for _ in range(most_gaps + 1):
        found += [indexes for indexes, here in begun if here == end]
        begun = [(indexes + (at,), gap[1]) for indexes, here in begun
                 for at, gap in enumerate(book.gaps) if gap[0] == here]
    return found


def total_of(book, indexes):
    return sum(book.gaps[at][2] for at in indexes)


def floors(book):
    """A dict: the (witness or None, event, number) of each floor."""
    found = {("told", at): item for at, item in enumerate(book.tellings)}
    found.update({("sure", at): (None, e, x) for at, (e, side, x) in enumerate(book.sure) if side == "least"})
    return found


def ceilings(book):
    found = {("told", at): item for at, item in enumerate(book.tellings)}
    found.update({("sure", at): (None, e, x) for at, (e, side, x) in enumerate(book.sure) if side == "most"})
    return found


def is_walk(book, a, b, indexes):
    """Whether these indexes of gaps lead from a to b."""
    stops = [a] + [book.gaps[at][1] for at in indexes]
    starts = [book.gaps[at][0] for at in indexes] + [b]
    return stops == starts


def is_true_link(book, thing):
    """Whether a link of the right form, which has no truths, is one."""
    start, indexes, end = thing
    if start not in floors(book) or end not in ceilings(book):
        return False
    _, a, x = floors(book)[start]
    _, b, y = ceilings(book)[end]
    return is_walk(book, a, b, indexes) and x + total_of(book, indexes) > y


def all_links(book, most_gaps):
    """All links whose ways have at most so many gaps."""
    return [(start, indexes, end)
            for start, (_, a, x) in floors(book).items()
            for end, (_, b, y) in ceilings(book).items()
            for indexes in walks(book, a, b, most_gaps)
            if x + total_of(book, indexes) > y]


def all_literals(book):
    return [(w, kind) for w in range(book.witnesses) for kind in KINDS]


def turned(literal):
    return (literal[0], CONTRARY[literal[1]])


def clause_leads(book, one, at, other):
    """Whether ("clause", at) may stand between these two literals."""
    w, kind, v, kind2 = book.clauses[at]
    both = [(w, kind), (v, kind2)]
    return [turned(one), other] == both or [other, turned(one)] == both


def link_leads(book, one, link, other):
    """Whether ("link", link) may stand between these two literals."""
    start, _, end = link
    by_start = book.tellings[start[1]][0] if start[0] == "told" else None
    by_end = book.tellings[end[1]][0] if end[0] == "told" else None
    w, kind = one
    if kind == "early" and start[0] == "told" and by_start == w:
        if end[0] == "told":
            return other == (by_end, "early")
        return other == (w, "late")
    if kind == "late" and end[0] == "told" and by_end == w:
        if start[0] == "told":
            return other == (by_start, "late")
        return other == (w, "early")
    return False


def is_true_step(book, thing):
    """Whether a step of the right form, which has no truths, is one."""
    one, (word, what), other = thing
    if word == "clause":
        return clause_leads(book, one, what, other)
    return word == "link" and is_true_link(book, what) and link_leads(book, one, what, other)


def all_steps(book, most_gaps):
    """All steps whose ways have at most so many gaps."""
    links = all_links(book, most_gaps)
    found = []
    for one, other in product(all_literals(book), repeat=2):
        found += [(one, ("clause", at), other) for at in range(len(book.clauses))
                  if clause_leads(book, one, at, other)]
        found += [(one, ("link", link), other) for link in links if link_leads(book, one, link, other)]
    return found


def is_true_reason(book, thing):
    """Whether a reason of the right form, which has no truths, is one."""
    word, what = thing
    if word == "gaps":
        return any(is_walk(book, e, e, what) for e in range(book.events)) and total_of(book, what) > 0
    if word == "bounds":
        return is_true_link(book, what) and [what[0][0], what[2][0]] == ["sure", "sure"]
    return word == "kinds" and all(is_true_step(book, some) for some in what) and goes_round(what)


def goes_round(steps):
    """Whether each step begins where the one ahead ends, and some witness is begun with in both kinds."""
    begun = [one for one, _, _ in steps]
    meets = all(steps[at - 1][2] == steps[at][0] for at in range(len(steps)))
    return meets and any(turned(one) in begun for one in begun)


def holds(book, kinds, times):
    """Whether all items of a book hold with these kinds and times."""
    return (all(times[b] >= times[a] + g for a, b, g in book.gaps)
            and all(times[e] >= x if side == "least" else times[e] <= x for e, side, x in book.sure)
            and all(kinds[w] == kind or kinds[v] == other for w, kind, v, other in book.clauses)
            and all(times[e] >= x if kinds[w] == "early" else times[e] <= x for w, e, x in book.tellings))


def all_kinds(book):
    return list(product(KINDS, repeat=book.witnesses))


def raised(book, times):
    """The least times from these on (None for none) with which the gaps hold, or None if there is a ring."""
    times = list(times)
    for _ in range(book.events + 1):
        ahead = list(times)
        for a, b, g in book.gaps:
            if times[a] is not None and (times[b] is None or times[b] < times[a] + g):
                times[b] = times[a] + g
        if times == ahead:
            return times
    return None


def least_of(book, kinds):
    """The least times of the events, None standing where there is none; None in their place if there is a ring."""
    times = [None] * book.events
    floors_held = [(e, x) for w, e, x in book.tellings if kinds[w] == "early"]
    for e, x in floors_held + [(e, x) for e, side, x in book.sure if side == "least"]:
        times[e] = x if times[e] is None else max(times[e], x)
    return raised(book, times)


def ends_of(book, kinds):
    """The least and the greatest times of the events with these kinds, or None if they do not fit: for greater books."""
    if not all(kinds[w] == kind or kinds[v] == other for w, kind, v, other in book.clauses):
        return None
    if raised(book, [0] * book.events) is None:
        return None
    lows = least_of(book, kinds)
    highs = [None if x is None else -x for x in least_of(book.turned(), tuple(CONTRARY[kind] for kind in kinds))]
    if any(low is not None and high is not None and low > high for low, high in zip(lows, highs)):
        return None
    return tuple(lows), tuple(highs)


def rows_of(book):
    """The ascending list of the kinds that fit: for greater books."""
    return [kinds for kinds in all_kinds(book) if ends_of(book, kinds) is not None]


def some_fit(book):
    """Whether there is an explanation, by going through all kinds: for greater books."""
    return any(ends_of(book, kinds) is not None for kinds in all_kinds(book))


def judge_of_steps(book, most_gaps):
    """A function that tells of any value whether it is a step whose way has at most so many gaps."""
    right = {repr(some) for some in all_steps(book, most_gaps)}
    return lambda thing: repr(thing) in right


def judge_of_reasons(book, most_gaps):
    """A function that tells of any value whether it is a reason whose ways have at most so many gaps."""
    bare = {repr(("gaps", around)) for e in range(book.events) for around in walks(book, e, e, most_gaps)
            if total_of(book, around) > 0}
    bare |= {repr(("bounds", some)) for some in all_links(book, most_gaps) if [some[0][0], some[2][0]] == ["sure", "sure"]}
    is_right_step = judge_of_steps(book, most_gaps)

    def is_circle(thing):
        return (thing.__class__ is tuple and len(thing) == 2 and thing[0].__class__ is str and thing[0] == "kinds"
                and thing[1].__class__ is tuple and all(is_right_step(some) for some in thing[1]) and goes_round(thing[1]))

    return lambda thing: repr(thing) in bare or is_circle(thing)


def sets_of(book):
    """All sets of witnesses, those of fewer first, those of equally many ascending."""
    found = [()]
    for many in range(1, book.witnesses + 1):
        found += combinations(range(book.witnesses), many)
    return found


def least_sets(sets):
    """Those of these sets that do not hold another one."""
    return [some for some in sets if not any(set(other) < set(some) for other in sets)]


def plain(book):
    """A Book with plain clauses in the place of those that are not."""
    clauses = [(w, kind, v, other if w == v else CONTRARY[kind]) for w, kind, v, other in book.clauses]
    return Book(book.events, book.witnesses, book.tellings, book.gaps, book.sure, clauses)


def planted_books(seed, many, slack=30, tellings=20, clauses=20, plainly=False):
    """Great books with an explanation: all items hold, by up to so much, with kinds and times that nobody tells."""
    chance = Random(seed)
    books = []
    for _ in range(many):
        kinds = [chance.choice(KINDS) for _ in range(8)]
        times = [chance.randint(-90, 90) for _ in range(8)]
        told, gaps, sure, either = [], [], [], []
        for _ in range(20):
            w, e, more = chance.randrange(8), chance.randrange(8), chance.randint(0, slack)
            told.append((w, e, times[e] + (more if kinds[w] == "late" else -more)))
            a, b = chance.sample(range(8), 2)
            gaps.append((a, b, times[b] - times[a] - chance.randint(0, slack)))
            e, side = chance.randrange(8), chance.choice(("least", "most"))
            sure.append((e, side, times[e] + chance.randint(0, slack) * (1 if side == "most" else -1)))
            w, v, other = chance.randrange(8), chance.randrange(8), chance.choice(KINDS)
            pair = [(w, kinds[w]), (v, CONTRARY[kinds[w]] if plainly else other)]
            chance.shuffle(pair)
            either.append(pair[0] + pair[1])
        books.append(Book(8, 8, told[:tellings], gaps, sure, either[:clauses]))
    return books


def kinds_that_fit(book, reach):
    """The kinds of all explanations with times from -reach to reach."""
    times = list(product(range(-reach, reach + 1), repeat=book.events))
    times = [some for some in times if all(some[b] >= some[a] + g for a, b, g in book.gaps)]
    return [kinds for kinds in all_kinds(book) if any(holds(book, kinds, some) for some in times)]


def mixed_books(seed, many, events=(0, 3), witnesses=(0, 3), items=(0, 4), numbers=(-1, 1), gaps=None, clauses=None):
    """Books with items of all parts, as the seed has it; each pair of numbers is the least and the most."""
    chance = Random(seed)

    def some(pair):
        return range(chance.randint(*pair))

    def kind():
        return chance.choice(KINDS)

    def one_book():
        n, k = chance.randint(*events), chance.randint(*witnesses)
        e = [chance.randrange(n) if n else None for _ in range(200)]
        w = [chance.randrange(k) if k else None for _ in range(200)]
        told = [(w.pop(), e.pop(), chance.randint(*numbers)) for _ in some(items) if n and k]
        leads = [tuple(chance.sample(range(n), 2)) + (chance.randint(*(gaps or numbers)),)
                 for _ in some(items) if n > 1]
        sure = [(e.pop(), chance.choice(("least", "most")), chance.randint(*numbers)) for _ in some(items) if n]
        either = [(w.pop(), kind(), w.pop(), kind()) for _ in some(clauses or items) if k]
        return Book(n, k, told, leads, sure, either)

    return [one_book() for _ in range(many)]


def altered(thing):
    """What a value becomes if some part of it is exchanged, left out, added or turned about, or put as a list or tuple."""
    found = []
    if isinstance(thing, (tuple, list)):
        made, otherwise = (tuple, list) if isinstance(thing, tuple) else (list, tuple)
        found += [otherwise(thing), thing[::-1], thing + thing, made([thing]), thing + made([0]), thing + made([()]),
                  made([0]) + thing]
        for at, part in enumerate(thing):
            found += [thing[:at] + made([other]) + thing[at + 1:] for other in altered(part)]
            found += [thing[:at] + thing[at + 1:], thing[:at] + made([part]) + thing[at:]]
        found += [thing[:at] + made([thing[at + 1], thing[at]]) + thing[at + 2:] for at in range(len(thing) - 1)]
    elif isinstance(thing, int):
        found += [thing + 1, thing - 1, -1 - thing, str(thing), None, (thing,), 10 ** 30]
        found += [bool(thing)] if thing in (0, 1) else []
    elif thing is None:
        found += [0, 1, -1, False, "", "None", (), (None,), 10 ** 30, -10 ** 30]
    else:
        words = ("told", "sure", "clause", "link", "gaps", "bounds", "kinds", "early", "late", "fits")
        found += [word for word in words if word != thing] + [thing.upper(), thing + " ", "", 0, None, (thing,)]
        found += [thing.encode()]
    return found
