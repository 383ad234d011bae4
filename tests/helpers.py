"""What the tests share: a slow doing of their own, values picked by a rule, and wrong values."""

from itertools import combinations, permutations

from twobesides.bundles import bundle_of
from twobesides.errors import BesidesError, InvalidText, TooMany
from twobesides.hosts import Host


class Picker:
    """Numbers that look like chance and are the same in each run."""

    def __init__(self, seed):
        self.state = seed

    def below(self, many):
        self.state = (self.state * 6364136223846793005 + 1442695040888963407) & (2 ** 64 - 1)
        return (self.state >> 33) % many

    def one_of(self, things):
        return things[self.below(len(things))]

    def answers(self, many):
        return tuple(self.below(2) for _ in range(many))

    def shuffled(self, things):
        left = list(things)
        return tuple(left.pop(self.below(len(left))) for _ in range(len(left)))


def pick_company(picker, people):
    """A company of so many people: of each pair it is tossed whether they know one another."""
    return people, tuple(pair for pair in combinations(range(people), 2) if picker.below(2))


def pick_two_named(picker, named):
    return picker.shuffled(range(named))[:2]


def pick_deed(picker, named):
    word = picker.one_of(("pairs", "takes", "tie")) if named > 1 else "pairs"
    if word == "pairs":
        return word, picker.below(named), picker.answers(6)
    one, other = pick_two_named(picker, named)
    return word, one, other, picker.answers(4) if word == "takes" else picker.one_of(("know", "part", "turn"))


def pick_script(picker, named, many, depth=2):
    """A script of so many items, with choices, for more than one named one, down to a depth."""
    items = []
    for _ in range(many):
        if named > 1 and depth > 0 and picker.below(3) == 0:
            one, other = pick_two_named(picker, named)
            scripts = [pick_script(picker, named, picker.below(3), depth - 1) for _ in range(2)]
            items.append(("ask", one, other, scripts[0], scripts[1]))
        else:
            items.append(pick_deed(picker, named))
    return tuple(items)


def every_company(people):
    """All companies of so many people, in Python's order."""
    pairs = list(combinations(range(people), 2))
    ties = [some for many in range(len(pairs) + 1) for some in combinations(pairs, many)]
    return [(people, some) for some in sorted(ties)]


def every_deed(named):
    """All deeds for so many named ones."""
    deeds = [("pairs", doer, answers) for doer in range(named) for answers in every_answers(6)]
    for one in range(named):
        for other in range(named):
            if one != other:
                deeds += [("takes", one, other, answers) for answers in every_answers(4)]
                deeds += [("tie", one, other, word) for word in ("know", "part", "turn")]
    return deeds


def every_answers(many):
    return [tuple(number >> index & 1 for index in range(many)) for number in range(2 ** many)]


def slow_know(company, one, other):
    return (min(one, other), max(one, other)) in company[1]


def slow_told(company, one, other, deed):
    """Whether one and other know one another behind a deed, by the words of [5]."""
    know = slow_know(company, one, other)
    if deed[0] == "pairs":
        _, doer, answers = deed
        if doer in (one, other):
            return know
        many = slow_know(company, doer, one) + slow_know(company, doer, other)
        return answers[3 * know + many] == 1
    if deed[0] == "takes":
        _, taker, giver, answers = deed
        if taker not in (one, other) or giver in (one, other):
            return know
        person = other if taker == one else one
        return answers[2 * slow_know(company, taker, person) + slow_know(company, giver, person)] == 1
    if {one, other} != {deed[1], deed[2]}:
        return know
    return {"know": True, "part": False, "turn": not know}[deed[3]]


def slow_deed(company, deed):
    pairs = combinations(range(company[0]), 2)
    return company[0], tuple(pair for pair in pairs if slow_told(company, pair[0], pair[1], deed))


def slow_deeds(company, script):
    """The deeds that are done, in turn, and the company behind them."""
    deeds = []
    for item in script:
        if item[0] == "ask":
            branch = item[3] if slow_know(company, item[1], item[2]) else item[4]
            more, company = slow_deeds(company, branch)
            deeds += more
        else:
            deeds.append(item)
            company = slow_deed(company, item)
    return deeds, company


def slow_done(company, script):
    return slow_deeds(company, script)[1]


def slow_part(named, company, besides):
    people = list(range(named)) + list(besides)
    pairs = combinations(range(len(people)), 2)
    return len(people), tuple(pair for pair in pairs if slow_know(company, people[pair[0]], people[pair[1]]))


def slow_table(named, script):
    views = every_company(named + 2)
    return tuple(views.index(slow_done(view, script)) for view in views)


def nested(value, deep):
    """A value in tuples and lists, so many deep."""
    for level in range(deep):
        value = (value,) if level % 2 else [value]
    return value


def asks(deep):
    """A choice with choices in both of its scripts, a hundred deep: far too many to be visited."""
    script = ()
    for _ in range(deep):
        script = (("ask", 0, 1, script, script),)
    return script


ANYTHING = [
    None, True, False, -1, 10 ** 119, -10 ** 119, "", "1", "pairs", "~" * 4000, "\n", [], [1], [()], (None,), (True,),
    ("",), (-1, ()), [2, []], (True, ()), ((0, 1),), (0,) * 1000, ((),) * 1000, [0] * 1000, nested(0, 99),
    asks(49), BesidesError("x"), InvalidText(3), (TooMany(9),), (InvalidText(0), ()), Host(1, (1, ())), (Host(2, (4, ((0, 2),))),),
    bundle_of([(3, ((0, 1),))]),
]


def wrong_nameds():
    return ANYTHING + [0, 4, (), (1,), "2", [2]]


def wrong_companies(named):
    """Values that are no companies for so many named ones, though some are nearly such."""
    full = named + 2
    ties = [
        [], None, 0, "", True, ((1, 0),), ((0, 0),), ((0, 1), (0, 1)), ((0, 2), (0, 1)), ((1, 2), (0, 1)), ((0, full),),
        ((-1, 0),), ((0, True),), ((False, 1),), ([0, 1],), [(0, 1)], ((0,),), ((0, 1, 2),), ((0, "1"),), (None,), (0, 1),
        ((0, 1), 1), ((0, 1), None), ((0, (1,)),), ((0, 1), (1, 2), (0, 2)),
    ]
    wrong = [(full, some) for some in ties] + [[full, ()], (full,), (full, (), ()), full, (str(full), ()), (None, ())]
    return ANYTHING + wrong + [(named - 1, ()), (0, ()), (10, ()), (True, ()), ((full,), ()), ((), full), ()]


def wrong_deeds(named):
    """Values that are no deeds, and no choices, for so many named ones."""
    six, four = (0, 1, 0, 1, 0, 1), (0, 1, 1, 0)
    wrong = [
        (), ("pairs",), ("pairs", 0), ("pairs", 0, six, 0), ["pairs", 0, six], ("pairs", 0, list(six)), ("pairs", named, six),
        ("pairs", -1, six), ("pairs", True, six), ("pairs", False, six), ("pairs", "0", six), ("pairs", None, six),
        ("pairs", 0, six + (0,)), ("pairs", 0, six[:5]), ("pairs", 0, ()), ("pairs", 0, None), ("pairs", 0, "010101"),
        ("pairs", 0, (0, 1, 0, 1, 0, 2)), ("pairs", 0, (0, 1, 0, 1, 0, -1)), ("pairs", 0, (0, 1, 0, 1, 0, True)),
        ("pairs", 0, (False,) + six[1:]), ("pairs", 0, (None,) * 6), ("pairs", 0, ("0",) * 6), ("pair", 0, six),
        ("Pairs", 0, six), ("takes", 0, six), ("tie", 0, six), ("pairs", 0, 1, four), (None, 0, six),
        (0, 0, six), (("pairs",), 0, six), "pairs", 0, None, True, (0, 0, 1, four), ("pairs", 0, (six,)),
        ("ask", 0, 0, (), ()), ("ask", 0, named, (), ()), ("ask", -1, 0, (), ()), ("ask", 0, True, (), ()),
        ("takes", 0, 0, four), ("takes", 0, named, four), ("takes", named, 0, four), ("tie", 0, 0, "know"),
        ("tie", 0, named, "know"), ("tie", -1, 0, "know"),
    ]
    if named == 1:
        wrong += [("takes", 0, 1, four), ("tie", 0, 1, "know"), ("ask", 0, 1, (), ())]
    else:
        wrong += wrong_deeds_of_two(six, four)
    return wrong


def wrong_deeds_of_two(six, four):
    return [
        ("takes", 0, 1), ("takes", 0, 1, four, 0), ("takes", 0, 1, list(four)), ("takes", 0, 1, six), ("takes", 0, 1, ()),
        ("takes", 0, True, four), ("takes", False, 1, four), ("takes", -1, 1, four), ("takes", 0, "1", four),
        ("takes", 0, None, four), ("takes", 0, 1, (0, 1, 1, 2)), ("takes", 0, 1, (0, 1, 1, -1)), ["takes", 0, 1, four],
        ("takes", 0, 1, (0, 1, True, 0)), ("takes", 0, 1, None), ("takes", 0, 1, "know"), ("take", 0, 1, four),
        ("tie", 0, 1), ("tie", 0, 1, "know", 0), ("tie", 0, 1, "knows"), ("tie", 0, 1, "Know"), ("tie", 0, 1, ""),
        ("tie", 0, 1, "kno"), ("tie", 0, 1, None), ("tie", 0, 1, 1), ("tie", 0, 1, True), ("tie", 0, 1, ("know",)),
        ("tie", 0, 1, four), ("tie", 0, True, "know"), ("tie", False, 1, "know"), ["tie", 0, 1, "know"],
        ("tie", (0,), 1, "know"), ("ask", 0, 1, ()), ("ask", 0, 1, (), (), ()), ["ask", 0, 1, (), ()], ("ask", 0, 1, [], ()),
        ("ask", 0, 1, (), []), ("ask", 0, 1, None, ()), ("ask", 0, 1, (), None), ("ask", 0, 1, ("tie", 0, 1, "know"), ()),
        ("ask", 0, 1, (), ("tie", 0, 1, "know")), ("ask", 0, 1, ((),), ()), ("ask", 0, 1, (), ((),)),
        ("ask", False, 1, (), ()), ("ask", 0, "1", (), ()), ("asks", 0, 1, (), ()), ("ask", 0, 1, (("tie", 0, 0, "know"),), ()),
        ("ask", 0, 1, (), (("tie", 0, 1, "knew"),)), ("know", 0, 1, "tie"), (1, 0, 1, "know"),
    ]


def wrong_scripts(named):
    """Values that are no scripts for so many named ones."""
    good = ("pairs", 0, (0, 0, 0, 1, 1, 1))
    wrong = [(deed,) for deed in wrong_deeds(named)] + [(good, deed) for deed in wrong_deeds(named)]
    wrong += [good, [good], (good,) * 31, (good,) * 1000, ((good,),), (good, (good,))]
    if named > 1:
        wrong += [deep_script(5), (good,) * 30 + (("ask", 0, 1, (), ()),), (("ask", 0, 1, (good,) * 15, (good,) * 15),)]
    return [value for value in ANYTHING if value != ()] + wrong


def deep_script(depth, second=True):
    """A script of a depth; the choices stand in second, or in first scripts."""
    script = ()
    for _ in range(depth):
        script = (("ask", 0, 1, (), script) if second else ("ask", 0, 1, script, ()),)
    return script


def wrong_people(people):
    """Values that are nobody in a company of so many."""
    return ANYTHING + [people, people + 1, -people, "0", (0,), [0], ()]


def wrong_besides(named, people):
    """Values that are no tuples of unlike people besides."""
    last = people - 1
    return [value for value in ANYTHING if value != ()] + [
        last, (0,), (named - 1,), (people,), (-1,), (last, last), (last, 0), [last], (str(last),), (last, None), (last, (last,)),
        (last, True), (True, last), (last, people), ((),),
    ]


def refuse(test, function, rows):
    """Ask a function with wrong arguments: rows hold a good value, its error, and wrong values.

    Each wrong value is asked for alone; then together with wrong values of later arguments, where
    the error of the first one is to be raised.
    """
    goods = [row[0] for row in rows]
    for index, (_, error, wrongs) in enumerate(rows):
        for wrong in wrongs:
            refuse_one(test, function, goods[:index] + [wrong] + goods[index + 1:], error)
        for later in range(index + 1, len(rows)):
            for count, wrong in enumerate(wrongs):
                also = rows[later][2][(7 * count) % len(rows[later][2])]
                values = goods[:index] + [wrong] + goods[index + 1:later] + [also] + goods[later + 1:]
                refuse_one(test, function, values, error)
        everything = goods[:index] + [row[2][0] for row in rows[index:]]
        refuse_one(test, function, everything, error)


def refuse_one(test, function, values, error):
    with test.assertRaises(error) as caught:
        function(*values)
    test.assertIs(type(caught.exception), error)


def wrong_lots(named, most=6):
    """Values that are no tuples of one script to so many."""
    good = (("pairs", 0, (0, 0, 0, 1, 1, 1)),)
    wrong = [(script,) for script in wrong_scripts(named)] + [(good, (), script) for script in wrong_scripts(named)]
    wrong += [(), ((),) * (most + 1), (good,) * (most + 1), [good], good, (good, list(good))]
    return [value for value in ANYTHING if value != ((),)] + wrong


def slow_companies_with_two_besides(named):
    """All companies with at most two besides: fewer people first, then fewer ties, then in Python's order."""
    companies = [company for people in range(named, named + 3) for company in every_company(people)]
    return sorted(companies, key=lambda company: (company[0], len(company[1]), company[1]))


def most_small(named):
    """How many people there are at most in a small company."""
    return min(5, named + 3)


def every_small(named):
    """All small companies, in Python's order."""
    return [company for people in range(named, most_small(named) + 1) for company in every_company(people)]


def pick_lot(picker, named, many, companies=None):
    """A lot of so many companies, or of fewer, as the same one may be picked twice."""
    companies = every_small(named) if companies is None else companies
    return tuple(sorted({picker.one_of(companies) for _ in range(many)}))


def slow_copies(named, company):
    return [slow_part(named, company, order) for order in permutations(range(named, company[0]))]


def slow_places(named, company, small):
    """All tuples of people besides for which the part of a company is a small one."""
    tuples = permutations(range(named, company[0]), small[0] - named)
    return [besides for besides in tuples if slow_part(named, company, besides) == small]


def slow_clear(named, company, lot):
    return not any(slow_places(named, company, small) for small in lot)


def slow_least_form(named, lot):
    """The least form of companies, by the words of [16]."""
    least = set()
    for company in lot:
        fewer = [other for other in lot if other[0] < company[0]]
        if slow_clear(named, company, fewer):
            least.add(min(slow_copies(named, company)))
    return tuple(sorted(least))


def wrong_smalls(named):
    """Values that are no small companies for so many named ones."""
    most = most_small(named)
    return wrong_companies(named) + [(most + 1, ()), (most + 1, ((0, 1),)), (9, ())]


def wrong_barred_lots(named):
    """Values that are no lots of small companies for so many named ones."""
    one, other = (named + 1, ()), (named + 2, ((0, 1),))
    wrong = [(small,) for small in wrong_smalls(named)] + [(one, small) for small in wrong_smalls(named)]
    wrong += [(other, one), (one, one), (one, other, other), [one], [one, other], one, ((one,),), (one, [other[0], other[1]])]
    if named > 1:
        wrong.append(tuple(every_small(named)[:601]))
    return [value for value in ANYTHING if value != ()] + wrong


def wrong_numbers(most, least=0):
    """Values that are no integers from one to another one."""
    return ANYTHING + [least - 1, most + 1, most + 2, str(least), (least,), [least]]


def pick_undone(picker, named, many):
    """A script of so many deeds, each of which can be undone."""
    items = []
    for _ in range(many):
        word = picker.one_of(("pairs", "takes", "tie")) if named > 1 else "pairs"
        half = picker.answers(3 if word == "pairs" else 2)
        answers = half + tuple(1 - answer for answer in half)
        one, other = pick_two_named(picker, named) if named > 1 else (0, 0)
        told = {"pairs": (word, one, answers), "takes": (word, one, other, answers), "tie": (word, one, other, "turn")}
        items.append(told[word])
    return tuple(items)


def slow_round(company, script):
    """The beginning and the round of a script for a company, by doing it again and again."""
    seen = {}
    while company not in seen:
        seen[company] = len(seen)
        company = slow_done(company, script)
    return seen[company], len(seen) - seen[company]


def slow_times(company, script, times):
    for _ in range(times):
        company = slow_done(company, script)
    return company


def wrong_goals(named, people):
    """Values that are no companies of so many people."""
    others = [(many, ()) for many in range(named, 11) if many != people]
    return wrong_companies(named) + others + [(people, ((0, people),)), [people, ()], (people, []), ((people, ()),)]


def slow_led(company, stock):
    """The companies that come of one, as they are met."""
    met = [company]
    for one in met:
        for script in stock:
            behind = slow_done(one, script)
            if behind not in met:
                met.append(behind)
    return met


def slow_arrows(companies, stock):
    """Where each script of a stock leads each of the companies."""
    return {company: [slow_done(company, script) for script in stock] for company in companies}


def pick_stock(picker, named, many):
    """So many short scripts, some of which can be undone."""
    stock = []
    for _ in range(many):
        length = 1 + picker.below(2)
        stock.append(pick_undone(picker, named, length) if picker.below(2) else pick_script(picker, named, length, 1))
    return tuple(stock)


def put_first(ways):
    """The least one of ways, or None: fewer indices come first, then Python's order."""
    return min(ways, key=lambda way: (len(way), way), default=None)



def every_start(named):
    """All companies of the named ones alone, in Python's order."""
    return every_company(named)


def short_script(picker, named, most=8, depth=2, items=4):
    """A script with at most so many deeds and choices in all."""
    while True:
        script = pick_script(picker, named, picker.below(items + 1), depth)
        if slow_count(script) <= most:
            return script


def slow_count(script):
    """How many deeds and choices there are in a script in all."""
    return sum(1 + (slow_count(item[3]) + slow_count(item[4]) if item[0] == "ask" else 0) for item in script)


def slow_step(company, script):
    """What is left of a script behind its first step, and what comes of the company."""
    item = script[0]
    if item[0] != "ask":
        return slow_deed(company, item), script[1:]
    return company, item[3 if slow_know(company, item[1], item[2]) else 4] + script[1:]


def slow_weavings(company, script, other):
    """All weavings of two scripts for a company, each with its end."""
    if script == () and other == ():
        return {(): company}
    told = {}
    if script != ():
        behind, left = slow_step(company, script)
        told.update({(0,) + way: end for way, end in slow_weavings(behind, left, other).items()})
    if other != ():
        behind, left = slow_step(company, other)
        told.update({(1,) + way: end for way, end in slow_weavings(behind, script, left).items()})
    return told


def slow_kind(named, company, person):
    return sum(2 ** one for one in range(named) if slow_know(company, one, person))


def slow_kind_pairs(named):
    return [(kind, other) for kind in range(2 ** named) for other in range(kind, 2 ** named)]


def slow_summary(named, company):
    """The summary of a company of any number of people, by the words of [29]."""
    besides = range(named, company[0])
    kinds = {person: slow_kind(named, company, person) for person in besides}
    numbers = tuple(sum(kinds[person] == kind for person in besides) for kind in range(2 ** named))
    tied = []
    for pair in slow_kind_pairs(named):
        known = [tie for tie in company[1] if tie[0] >= named and tuple(sorted((kinds[tie[0]], kinds[tie[1]]))) == pair]
        tied.append(len(known))
    return tuple(tie for tie in company[1] if tie[1] < named), numbers, tuple(tied)


def slow_pairs_of(numbers, pair):
    """How many pairs of people of a pair of kinds there are."""
    kind, other = pair
    return numbers[kind] * (numbers[kind] - 1) // 2 if kind == other else numbers[kind] * numbers[other]


def wrong_summaries(named):
    """Values that are no summaries for so many named ones."""
    kinds = 2 ** named
    pairs = slow_kind_pairs(named)
    own, numbers = (), (2,) * kinds
    tied = tuple(slow_pairs_of(numbers, pair) for pair in pairs)
    good = (own, numbers, tied)
    wrong = [list(good), good[:2], good + ((),), (list(own), numbers, tied), (own, list(numbers), tied), (own, numbers, list(tied))]
    wrong += [(value, numbers, tied) for value in wrong_owns(named)]
    wrong += [(own, value, tied) for value in ANYTHING + [numbers[1:], numbers + (0,), ()]]
    wrong += [(own, numbers, value) for value in ANYTHING + [tied[1:], tied + (0,), ()]]
    for at in range(kinds):
        for value in (-1, 10 ** 30 + 1, None, True, "2", (2,)):
            wrong.append((own, numbers[:at] + (value,) + numbers[at + 1:], (0,) * len(pairs)))
    for at in range(len(pairs)):
        for value in (-1, tied[at] + 1, 10 ** 119, None, True, "1", (1,)):
            wrong.append((own, numbers, tied[:at] + (value,) + tied[at + 1:]))
        wrong.append((own, (0,) * kinds, (0,) * at + (1,) + (0,) * (len(pairs) - at - 1)))
    return ANYTHING + [()] + wrong


def wrong_owns(named):
    """Values that are no ascending tuples of pairs of named ones."""
    wrong = [0, (0,), ((0, 0),), ((1, 0),), ((0, named),), ((-1, 0),), [(0, 1)], ([0, 1],), ((0, True),), ((0, 1), (0, 1)), ((0,),)]
    if named == 3:
        wrong += [((0, 2), (0, 1)), ((1, 2), (0, 2)), ((0, 1), (2, 1)), ((0, 1), (0, 2, 1))]
    return [value for value in ANYTHING if value != () and (value != ((0, 1),) or named == 1)] + wrong


def pick_summary(picker, named, most):
    """A summary with at most so many people of each kind."""
    numbers = tuple(picker.below(most + 1) for _ in range(2 ** named))
    tied = tuple(picker.below(slow_pairs_of(numbers, pair) + 1) for pair in slow_kind_pairs(named))
    return picker.one_of(every_start(named))[1], numbers, tied


def every_sided_company(people):
    """All sided companies of so many people, in the order of [37]."""
    pairs = list(permutations(range(people), 2))
    told = [(people, knows, moods) for many in range(len(pairs) + 1) for knows in combinations(pairs, many)
            for some in range(people + 1) for moods in combinations(range(people), some)]
    return sorted(told, key=lambda sided: (len(sided[1]), sided))


def pick_sided(picker, people):
    """A sided company of so many people: all is tossed."""
    pairs = [pair for pair in permutations(range(people), 2) if picker.below(2)]
    return people, tuple(sorted(pairs)), tuple(person for person in range(people) if picker.below(2))


def pick_sided_deed(picker):
    word = picker.one_of(("pairs", "meets", "liked", "moods"))
    return word, picker.answers(16 if word == "pairs" else 8)


def pick_sided_script(picker, many):
    return tuple(pick_sided_deed(picker) for _ in range(many))


def slow_sided_deed(sided, deed):
    """What comes of a sided company by a sided deed, by the words of [36]."""
    people, knows, moods = sided
    word, answers = deed
    told_knows, told_moods = set(knows), set(moods)
    if word == "pairs":
        for one, other in permutations(range(1, people), 2):
            asked = [(one, other) in knows, (other, one) in knows, (0, one) in knows, (0, other) in knows]
            told_knows.discard((one, other))
            if answers[sum(2 ** (3 - index) for index in range(4) if asked[index])]:
                told_knows.add((one, other))
        return people, tuple(sorted(told_knows)), moods
    for one in range(1, people):
        asked = [(0, one) in knows, (one, 0) in knows, one in moods]
        answer = answers[sum(2 ** (2 - index) for index in range(3) if asked[index])]
        told, what = {"meets": (told_knows, (0, one)), "liked": (told_knows, (one, 0)), "moods": (told_moods, one)}[word]
        told.discard(what)
        if answer:
            told.add(what)
    return people, tuple(sorted(told_knows)), tuple(sorted(told_moods))


def slow_sided(sided, deeds):
    for deed in deeds:
        sided = slow_sided_deed(sided, deed)
    return sided


def wrong_sideds():
    """Values that are no sided companies."""
    knows = [
        [], None, 0, "", True, ((0, 0),), ((2, 2),), ((0, 1), (0, 1)), ((1, 0), (0, 1)), ((0, 3),), ((3, 0),), ((-1, 0),), ((0, True),),
        ((False, 1),), ([0, 1],), [(0, 1)], ((0,),), ((0, 1, 2),), ((0, "1"),), (None,), (0, 1), ((0, 1), 1), ((0, (1,)),),
    ]
    moods = [[], None, 0, "", True, (3,), (-1,), (1, 1), (1, 0), (True,), (False,), [1], ("1",), (None,), ((0,),), (0, 1, 2, 3)]
    peoples = [0, 7, -1, True, None, "3", (3,), 3 * 10 ** 30]
    wrong = [(3, some, ()) for some in knows] + [(3, (), some) for some in moods] + [(people, (), ()) for people in peoples]
    return ANYTHING + wrong + [(), (3,), (3, ()), [3, (), ()], (3, (), (), ()), 3, ((3, (), ()),), (1, (), (1,)), (1, ((0, 1),), ())]


def wrong_sided_deeds():
    """Values that are no sided deeds."""
    wrong = [(), None, 0, "pairs", ("pairs",), ("pairs", (0,) * 16, 0), ["pairs", (0,) * 16], ("pair", (0,) * 16), (0, (0,) * 16)]
    wrong += [("Meets", (0,) * 8), ((0,) * 8, "meets"), (("meets",), (0,) * 8), (None, (0,) * 8), ("", (0,) * 8), (["moods"], (0,) * 8)]
    for word, many in (("pairs", 16), ("meets", 8), ("liked", 8), ("moods", 8)):
        good = (0, 1) * (many // 2)
        wrong += [(word, good[:-1]), (word, good + (0,)), (word, ()), (word, list(good)), (word, None), (word, "01" * (many // 2))]
        wrong += [(word, (0, 1) * (12 - many // 2)), (word, good[:-1] + (2,)), (word, (-1,) + good[1:]), (word, good[:-1] + (True,))]
        wrong += [(word, (False,) + good[1:]), (word, (None,) * many), (word, ("0",) * many), (word, (good,)), [word, good]]
    return wrong


def wrong_sided_scripts():
    """Values that are no sided scripts."""
    good = ("moods", (0, 1) * 4)
    wrong = [(deed,) for deed in wrong_sided_deeds()] + [(good, deed) for deed in wrong_sided_deeds()]
    wrong += [good, [good], (good,) * 21, (good,) * 1000, ((good,),), (good, (good,))]
    return [value for value in ANYTHING if value != ()] + wrong


def slow_entry(company, entry):
    """What comes of a company by an entry."""
    word, told = entry
    people, ties = company
    if word == "deed":
        return slow_deed(company, told)
    if word == "come":
        return people + 1, tuple(sorted(ties + tuple((friend, people) for friend in told)))
    stay = [tie for tie in ties if told not in tie]
    return people - 1, tuple(tuple(person - (person > told) for person in tie) for tie in stay)


def slow_book(book):
    """The companies of a day-book."""
    companies = [book[1]]
    for entry in book[2]:
        companies.append(slow_entry(companies[-1], entry))
    return companies


def pick_entry(picker, named, people):
    """An entry, if there are so many people."""
    word = picker.one_of(("deed", "deed", "come", "leave"))
    if word == "come" and people < 9:
        return word, tuple(person for person in range(people) if picker.below(2))
    if word == "leave" and people > named:
        return word, named + picker.below(people - named)
    return "deed", pick_deed(picker, named)


def pick_book(picker, named, many, people=None):
    """A day-book of so many entries, with so many people at first."""
    people = named + picker.below(10 - named) if people is None else people
    company = pick_company(picker, people)
    entries = []
    for _ in range(many):
        entries.append(pick_entry(picker, named, people))
        people += {"deed": 0, "come": 1, "leave": -1}[entries[-1][0]]
    return named, company, tuple(entries)


def wrong_friends(people):
    """Values that are no ascending tuples of some of so many people."""
    return [value for value in ANYTHING if value != ()] + [
        0, (people,), (-1,), (0, 0), [0], ("0",), (0, None), (0, (1,)), (0, True), (True,), (0, people), ((),), range(1), (1, 0), {0},
    ]


def wrong_entries(named, people):
    """Values that are no entries, if there are so many people."""
    good = ("pairs", 0, (0, 0, 0, 1, 1, 1))
    wrong = [("deed", deed) for deed in wrong_deeds(named)] + [("come", friends) for friends in wrong_friends(people)]
    wrong += [("leave", person) for person in ANYTHING + [named - 1, people, -1, "3", (named,), 0]]
    wrong += [(), ("deed",), ("deed", good, 0), ["deed", good], ("Deed", good), (0, good), (good, "deed"), good, ("deed", (good,)), "deed"]
    wrong += [("come",), ("come", (), ()), ["come", ()], ("comes", ()), ("go", named), (("come",), ()), (None, ()), ("", ()), ("undo", ())]
    return wrong + [("ask", (0, 1)), ("deed", ("ask", 0, 1, (), ())), ["leave", named], ("leave",), ("leaves", named)]


def wrong_books():
    """Values that are no day-books."""
    good = ("deed", ("pairs", 0, (0, 0, 0, 1, 1, 1)))
    wrong = []
    for named in (1, 2, 3):
        company = (named + 2, ())
        wrong += [(value, company, ()) for value in wrong_nameds()]
        wrong += [(named, value, ()) for value in wrong_companies(named)]
        wrong += [(named, company, value) for value in ANYTHING if value != ()]
        wrong += [(named, company, (good, entry)) for entry in wrong_entries(named, named + 2)]
        wrong += [(named, company, (entry,)) for entry in wrong_entries(named, named + 2)]
        wrong += [(named, company, (good,) * 31), (named, company, [good]), [named, company, (good,)], (named, company), (named, company, (), ())]
        wrong += [(named, (9, ()), (("come", ()),)), (named, (named, ()), (("leave", named),)), (named, company, good), (company, named, ())]
        wrong += [(named, company, (("leave", named + 1),) * 2), (named, company, (("come", ()),) * (8 - named))]
        wrong += [(named, company, (("leave", named), ("come", (named + 1,)))), (named, company, (("come", (named + 2,)),))]
    return ANYTHING + wrong
