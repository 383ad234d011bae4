"""Points 24 and 67: turned views, wishes, and ways that lead views into wishes."""

import unittest
from itertools import combinations

from tests.helpers import ANYTHING, Picker, every_company, pick_company, refuse, slow_done, slow_part, slow_table
from tests.helpers import wrong_lots, wrong_nameds, wrong_numbers
from tests.test_forgetting import FORGET, FT, ONE_MORE_AHEAD, THOUSAND_AHEAD, first_lots, picked_stocks, slow_lots
from twobesides.companytexts import read_script
from twobesides.errors import InvalidNamed, InvalidNumber, InvalidStock, InvalidWish, TooMany
from twobesides.wishes import bringing_way, brought_views, turned_view

THOUSAND_IN_ALL = [
    ("g011110", "p1010011k10", "p0011100p1100011", "?01[/p1110010p1111011]"),
    ("p1011100", "s10", "p0001111g101100", "p1011100g011001p1100011"),
]
ONE_MORE_IN_ALL = [
    ("u10g010011p0111000", "u01p0011100", "?01[p1001101g101111/p0110001s01]", "u10"), ("p1101011", "p1101001u10", "g101001g101100"),
]


def slow_turned(named):
    views = every_company(named + 2)
    return [views.index(slow_part(named, view, (named + 1, named))) for view in views]


def pick_wish(picker, named, many):
    turned = slow_turned(named)
    some = [picker.below(len(turned)) for _ in range(many)]
    return tuple(sorted(set(some) | {turned[number] for number in some}))


def wrong_wishes(named):
    """Values that are no wishes for so many named ones."""
    turned = slow_turned(named)
    many = len(turned)
    one = [number for number in range(many) if turned[number] != number][0]
    pair = tuple(sorted((one, turned[one])))
    wrong = [(one,), (turned[one],), pair[::-1], pair + pair, pair + (pair[1],), list(pair), [], (pair[0],) + pair, (many,), (-1,)]
    wrong += [pair + (many,), (-1,) + pair, (True,), (False,), ("0",), (None,), ((),), (0, 0), (pair,), pair + (None,), one, 0]
    wrong += [tuple(range(many - 1))[::-1], tuple(range(many + 1)), tuple(number for number in range(many) if number != one)]
    return [value for value in ANYTHING if value != ()] + wrong


def slow_brought(named, stock, wish):
    tables = [slow_table(named, script) for script in stock]
    told = []
    for number in range(len(tables[0])):
        met = [number]
        for one in met:
            met += [table[one] for table in tables if table[one] not in met]
        if any(one in wish for one in met):
            told.append(number)
    return tuple(told)


class Turned(unittest.TestCase):
    def test_all_views(self):
        for named in (1, 2):
            self.assertEqual([turned_view(named, number) for number in range(len(slow_turned(named)))], slow_turned(named))

    def test_turned_twice(self):
        for named, many in ((1, 8), (2, 64)):
            self.assertEqual([turned_view(named, turned_view(named, number)) for number in range(many)], list(range(many)))

    def test_wrong_arguments(self):
        for named, many in ((1, 8), (2, 64)):
            refuse(self, turned_view, [(named, InvalidNamed, wrong_nameds() + [3]), (0, InvalidNumber, wrong_numbers(many - 1))])


class Wishes(unittest.TestCase):
    def test_which_values_are_wishes(self):
        for named in (1, 2):
            turned = slow_turned(named)
            for some in [(), tuple(range(len(turned)))] + [pair for pair in combinations(range(len(turned)), 2)]:
                if all(turned[number] in some for number in some):
                    self.assertEqual(brought_views(named, ((),), some), some)
                else:
                    self.assertRaises(InvalidWish, brought_views, named, ((),), some)
                    self.assertRaises(InvalidWish, bringing_way, named, ((),), some)

    def test_wrong_arguments(self):
        for named in (1, 2):
            for function in (bringing_way, brought_views):
                refuse(self, function, [
                    (named, InvalidNamed, wrong_nameds() + [3]), (((), ()), InvalidStock, wrong_lots(named)),
                    ((), InvalidWish, wrong_wishes(named)),
                ])

    def test_three_named_ones_are_not_let(self):
        for values in ((((),), ()), ((), ())):
            self.assertRaises(InvalidNamed, bringing_way, 3, *values)
            self.assertRaises(InvalidNamed, brought_views, 3, *values)
        self.assertRaises(InvalidNamed, turned_view, 3, 0)


class Brought(unittest.TestCase):
    def test_picked(self):
        picker = Picker(260)
        told = set()
        for named, many in ((1, 80), (2, 30)):
            for stock in picked_stocks(261 + named, named, many):
                wish = pick_wish(picker, named, picker.below(4))
                views = brought_views(named, stock, wish)
                self.assertEqual(views, slow_brought(named, stock, wish))
                told.add(views != wish)
        self.assertEqual(told, {True, False})

    def test_no_wish_and_all_views(self):
        for named, many in ((1, 8), (2, 64)):
            for stock in (((),), FT, ((),) * 6):
                self.assertEqual(brought_views(named, stock, ()), ())
                self.assertEqual(brought_views(named, stock, tuple(range(many))), tuple(range(many)))
                self.assertEqual(bringing_way(named, stock, tuple(range(many))), ())
                self.assertIsNone(bringing_way(named, stock, ()))


class Bringing(unittest.TestCase):
    def test_picked(self):
        picker = Picker(263)
        longest, none = 0, 0
        for named, many in ((1, 80), (2, 60)):
            for stock in picked_stocks(264 + named, named, many):
                lots = slow_lots(named, stock, 900)
                if lots is None:
                    continue
                lot = picker.one_of(lots)[0]
                wishes = [pick_wish(picker, named, 5 * named)]
                wishes.append(tuple(sorted(lot | {turned_view(named, number) for number in lot})))
                for wish in wishes:
                    ways = [way for some, way in lots if some <= set(wish)]
                    told = ways[0] if ways else None
                    self.assertEqual(bringing_way(named, stock, wish), told)
                    none += told is None
                    longest = max(longest, len(told or ()))
        self.assertGreater(longest, 2)
        self.assertGreater(none, 20)

    def test_least_ways(self):
        part = [(deed,) for deed in FORGET]
        self.assertEqual(bringing_way(2, tuple(part), (0,)), (0, 1, 2))
        self.assertEqual(bringing_way(2, (FORGET, FORGET), (0,)), (0,))
        self.assertIsNone(bringing_way(2, tuple(part[1:]), (0,)))
        know = (("pairs", 0, (1, 1, 1, 1, 1, 1)),)
        self.assertEqual(bringing_way(1, (know, FT[0]), (3, 4, 6, 7)), (0,))
        self.assertEqual(bringing_way(1, (know, FT[0]), (0, 1, 2, 5)), (0, 1))
        self.assertIsNone(bringing_way(1, (know, FT[0]), (4, 6)))

    def test_parts_of_what_comes_are_of_the_wish(self):
        picker = Picker(266)
        found = 0
        for named in (1, 2):
            for stock in picked_stocks(267 + named, named, 30):
                wish = pick_wish(picker, named, 6 * named)
                way = bringing_way(named, stock, wish) if slow_lots(named, stock, 900) else None
                if way is not None:
                    found += 1
                    for people in range(named + 2, 8):
                        company = pick_company(picker, people)
                        for index in way:
                            company = slow_done(company, stock[index])
                        for pair in combinations(range(named, people), 2):
                            self.assertIn(every_company(named + 2).index(slow_part(named, company, pair)), wish)
        self.assertGreater(found, 5)


class Limits(unittest.TestCase):
    def told(self, texts):
        return tuple(read_script(2, text) for text in texts)

    def test_a_thousand_lots_in_all(self):
        for texts in THOUSAND_IN_ALL:
            stock = self.told(texts)
            self.assertEqual(len(slow_lots(2, stock, 2000)), 1000)
            self.assertIsNone(bringing_way(2, stock, ()))

    def test_one_more_in_all(self):
        for texts in ONE_MORE_IN_ALL:
            stock = self.told(texts)
            self.assertEqual(len(slow_lots(2, stock, 2000)), 1001)
            with self.assertRaises(TooMany) as caught:
                bringing_way(2, stock, ())
            self.assertEqual(caught.exception.limit, 1000)
            self.assertEqual(bringing_way(2, stock, tuple(range(64))), ())
            self.assertRaises(InvalidWish, bringing_way, 2, stock, None)

    def test_just_as_many_and_more_ahead_of_the_first_one_within_the_wish(self):
        told = set()
        for texts in ONE_MORE_IN_ALL + THOUSAND_AHEAD + ONE_MORE_AHEAD:
            stock = self.told(texts)
            lots = first_lots(2, stock, 1100)
            for lot, _ in [lots[1]] + lots[990:1010] + lots[-1:]:
                wish = tuple(sorted(lot | {turned_view(2, number) for number in lot}))
                first = [index for index, (some, _) in enumerate(lots) if some <= set(wish)][0]
                told.add(max(min(first, 1002), 999))
                if first > 1000:
                    self.assertRaises(TooMany, bringing_way, 2, stock, wish)
                else:
                    self.assertEqual(bringing_way(2, stock, wish), lots[first][1])
        self.assertEqual(told, {999, 1000, 1001, 1002})


if __name__ == "__main__":
    unittest.main()
