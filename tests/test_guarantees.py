"""Point 3: what holds for all companies and scripts, at many that are worked out here."""

import unittest
from itertools import combinations, permutations

from tests.helpers import Picker, every_company, every_deed, every_small, pick_company, pick_lot, pick_script, pick_stock
from tests.helpers import pick_undone, slow_clear, slow_times
from twobesides.alikes import parting_company, scripts_alike
from twobesides.barredahead import does_lead, lot_ahead
from twobesides.barredlots import are_lots_alike, is_clear, least_lot
from twobesides.companies import part_of
from twobesides.companyviews import company_of_views, view_numbers, with_person
from twobesides.doing import done
from twobesides.forgetting import forgetting_way, lasting_pair
from twobesides.leadings import companies_led
from twobesides.needless import spared_script
from twobesides.onetoones import is_one_to_one, undoing_times
from twobesides.opposites import opposite, opposite_script, renamed_company, renamed_script
from twobesides.rounds import coming_round, done_times, table_times
from twobesides.scripts import deeds_done
from twobesides.starts import drawn_rows, start_number
from twobesides.twins import torn_twins, twins_of
from twobesides.views import table_of, view_number, views_of
from twobesides.wishes import bringing_way, turned_view


def picked_scripts(seed, named, many):
    picker = Picker(seed)
    return [pick_script(picker, named, 1 + picker.below(4)) for _ in range(many)]


class Parts(unittest.TestCase):
    def test_what_comes_of_a_part_is_the_part_of_what_comes(self):
        picker = Picker(20)
        for named in (1, 2, 3):
            for script in picked_scripts(21 + named, named, 60):
                company = pick_company(picker, 9)
                besides = picker.shuffled(range(named, 9))[:picker.below(10 - named)]
                behind = done(named, company, script)
                self.assertEqual(done(named, part_of(named, company, besides), script), part_of(named, behind, besides))

    def test_one_person_more_changes_nothing_of_the_others(self):
        picker = Picker(22)
        for named in (1, 2, 3):
            for script in picked_scripts(23 + named, named, 60):
                company = pick_company(picker, named + picker.below(9 - named))
                people = company[0]
                friends = tuple(person for person in range(people) if picker.below(2))
                behind = done(named, with_person(named, company, friends), script)
                self.assertEqual(part_of(named, behind, tuple(range(named, people))), done(named, company, script))

    def test_the_start_tells_which_deeds_are_done(self):
        picker = Picker(24)
        for named in (2, 3):
            for script in picked_scripts(25 + named, named, 60):
                told = {}
                for _ in range(20):
                    company = pick_company(picker, named + picker.below(4))
                    deeds = deeds_done(named, company, script)
                    start = part_of(named, company, ())
                    self.assertEqual(told.setdefault(start, deeds), deeds)
                    self.assertEqual(deeds_done(named, start, script), deeds)
                    self.assertEqual(drawn_rows(named, script)[start_number(named, company)], tuple(deeds))


class Tables(unittest.TestCase):
    def test_table_of_two_scripts_behind_one_another(self):
        for named, many in ((1, 60), (2, 40), (3, 8)):
            scripts = picked_scripts(26 + named, named, many)
            for first, second in zip(scripts, scripts[1:]):
                table, behind = table_of(named, first), table_of(named, second)
                self.assertEqual(table_of(named, first + second), tuple(behind[number] for number in table))

    def test_like_tables_do_the_same_to_each_company(self):
        picker = Picker(27)
        for named, scripts in ((1, self.short_scripts()), (2, [(deed,) for deed in every_deed(2)] + [()])):
            kinds = {}
            for script in scripts:
                kinds.setdefault(table_of(named, script), []).append(script)
            self.assertLess(len(kinds), len(scripts))
            for alike in kinds.values():
                for company in [pick_company(picker, people) for people in range(named, 10)]:
                    behind = {done(named, company, script) for script in alike[:6]}
                    self.assertEqual(len(behind), 1)

    def short_scripts(self):
        deeds = every_deed(1)[::3]
        return [()] + [(deed,) for deed in deeds] + [(deed, other) for deed in deeds for other in deeds]

    def test_unlike_tables_part_some_view(self):
        for named in (1, 2):
            scripts = picked_scripts(28 + named, named, 24)
            for one in scripts:
                for other in scripts:
                    parted = [view for view in views_of(named) if done(named, view, one) != done(named, view, other)]
                    self.assertEqual(parted == [], table_of(named, one) == table_of(named, other))


class ViewNumbers(unittest.TestCase):
    def test_companies_are_one_just_if_their_view_numbers_are(self):
        for named, people in ((1, 3), (1, 4), (1, 5), (2, 4), (2, 5), (3, 5)):
            companies = every_company(people)
            numbers = {view_numbers(named, company) for company in companies[::7]}
            self.assertEqual(len(numbers), len(companies[::7]))

    def test_view_numbers_of_greater_companies(self):
        picker = Picker(29)
        for named in (1, 2, 3):
            for people in range(named + 2, 10):
                company = pick_company(picker, people)
                numbers = view_numbers(named, company)
                self.assertEqual(company_of_views(named, people - named, numbers), company)
                for order in list(permutations(range(named, people)))[:4]:
                    other = part_of(named, company, order)
                    self.assertEqual(view_numbers(named, other) == numbers, other == company)


class Opposites(unittest.TestCase):
    def test_what_comes_of_the_opposite_by_the_opposite(self):
        picker = Picker(54)
        for named in (1, 2, 3):
            for script in picked_scripts(55 + named, named, 60):
                company = pick_company(picker, named + picker.below(10 - named))
                behind = done(named, opposite(named, company), opposite_script(named, script))
                self.assertEqual(behind, opposite(named, done(named, company, script)))

    def test_what_comes_by_other_names(self):
        picker = Picker(58)
        for named in (1, 2, 3):
            for order in permutations(range(named)):
                for script in picked_scripts(59 + named, named, 30):
                    company = pick_company(picker, named + picker.below(10 - named))
                    behind = done(named, renamed_company(named, company, order), renamed_script(named, script, order))
                    self.assertEqual(behind, renamed_company(named, done(named, company, script), order))

    def test_each_deed_by_itself(self):
        picker = Picker(62)
        for named in (1, 2, 3):
            for deed in every_deed(named):
                company = pick_company(picker, named + 3)
                behind = done(named, company, (deed,))
                told = done(named, opposite(named, company), opposite_script(named, (deed,)))
                self.assertEqual(told, opposite(named, behind))
                order = picker.shuffled(range(named))
                told = done(named, renamed_company(named, company, order), renamed_script(named, (deed,), order))
                self.assertEqual(told, renamed_company(named, behind, order))


class Alikes(unittest.TestCase):
    def test_alike_just_if_the_tables_are_one(self):
        for named, many in ((1, 40), (2, 25), (3, 6)):
            scripts = picked_scripts(63 + named, named, many) + [()]
            for one in scripts:
                for other in scripts[::3]:
                    alike = table_of(named, one) == table_of(named, other)
                    self.assertIs(scripts_alike(named, one, other), alike)
                    company = parting_company(named, one, other)
                    self.assertIs(company is None, alike)
                    if company is not None:
                        self.assertLessEqual(company[0], named + 2)
                        self.assertNotEqual(done(named, company, one), done(named, company, other))

    def test_alike_scripts_may_stand_in_the_place_of_one_another(self):
        picker = Picker(66)
        found = 0
        for named, many in ((1, 60), (2, 60), (3, 12)):
            for _ in range(many):
                script = pick_script(picker, named, 1 + picker.below(2), 1)
                other = spared_script(named, script + script + script)
                if not scripts_alike(named, script, other):
                    continue
                found += script != other
                ahead, behind = pick_script(picker, named, 2, 0), pick_script(picker, named, 2, 0)
                self.assertTrue(scripts_alike(named, ahead + script + behind, ahead + other + behind))
                if named > 1:
                    asked = [ahead + (("ask", 1, 0, some, behind),) for some in (script, other)]
                    self.assertTrue(scripts_alike(named, asked[0], asked[1]))
        self.assertGreater(found, 20)


class Barred(unittest.TestCase):
    def picked_lots(self, seed, named, many):
        picker = Picker(seed)
        few = [company for company in every_small(named) if company[0] <= named + 2]
        return [pick_lot(picker, named, picker.below(4), few) for _ in range(many)]

    def test_clear_behind_just_if_clear_of_the_lot_ahead(self):
        picker = Picker(140)
        told = []
        for named in (1, 2, 3):
            for lot in self.picked_lots(141 + named, named, 20):
                script = pick_script(picker, named, 1 + picker.below(3), 1)
                company = pick_company(picker, min(9, named + 1 + picker.below(6)))
                told.append(is_clear(named, done(named, company, script), lot))
                self.assertIs(is_clear(named, company, lot_ahead(named, script, lot)), told[-1])
                self.assertIs(slow_clear(named, done(named, company, script), lot), told[-1])
        self.assertGreater(min(told.count(True), told.count(False)), 8)

    def test_leading_is_seen_at_as_many_people_as_the_other_lot_has(self):
        picker = Picker(145)
        told = []
        for named in (1, 2):
            lots = self.picked_lots(146 + named, named, 16)
            for lot, mate in zip(lots, lots[1:]):
                script = pick_script(picker, named, 1 + picker.below(2), 1)
                leads = True
                for company in [company for people in {small[0] for small in mate} for company in every_company(people)]:
                    if slow_clear(named, company, lot) and not slow_clear(named, done(named, company, script), mate):
                        leads = False
                told.append(leads)
                self.assertIs(does_lead(named, script, lot, mate), leads)
        self.assertGreater(min(told.count(True), told.count(False)), 4)

    def test_alike_just_if_the_least_forms_are(self):
        for named in (1, 2, 3):
            lots = self.picked_lots(149 + named, named, 10)
            companies = [company for people in range(named, named + 3) for company in every_company(people)[::5]]
            for lot in lots:
                for mate in lots + [least_lot(named, lot)]:
                    same = least_lot(named, lot) == least_lot(named, mate)
                    self.assertIs(are_lots_alike(named, lot, mate), same)
                    if same:
                        clear = [is_clear(named, company, lot) for company in companies]
                        self.assertEqual(clear, [is_clear(named, company, mate) for company in companies])


class AgainAndAgain(unittest.TestCase):
    def picked(self, seed):
        picker = Picker(seed)
        for named, many in ((1, 30), (2, 30), (3, 10)):
            for _ in range(many):
                yield named, pick_script(picker, named, picker.below(4), 1), pick_company(picker, 9 - picker.below(4))
                yield named, pick_undone(picker, named, 1 + picker.below(4)), pick_company(picker, 9 - picker.below(4))

    def test_one_to_one_just_if_no_two_views_come_to_one(self):
        for named, script, company in self.picked(153):
            table = table_of(named, script)
            self.assertIs(is_one_to_one(named, script), len(set(table)) == len(table))
            beginning, whole = coming_round(named, script)
            self.assertIs(beginning == 0, is_one_to_one(named, script))
            if is_one_to_one(named, script):
                self.assertEqual(undoing_times(named, script), whole - 1)
                behind = done(named, company, script)
                self.assertEqual(done_times(named, behind, script, whole - 1), company)
                if whole < 30:
                    self.assertEqual(slow_times(behind, script, whole - 1), company)

    def test_the_round_of_a_script_is_that_of_its_table(self):
        for named, script, company in self.picked(154):
            beginning, whole = coming_round(named, script)
            table = table_times(named, script, beginning)
            self.assertEqual(table_times(named, script, beginning + whole), table)
            self.assertEqual(done_times(named, company, script, beginning + whole), done_times(named, company, script, beginning))
            if beginning > 0:
                ahead = table_times(named, script, beginning - 1)
                self.assertNotEqual(table_times(named, script, beginning - 1 + whole), ahead)
            for fewer in [number for number in range(1, min(whole, 60)) if whole % number == 0]:
                self.assertNotEqual(table_times(named, script, beginning + fewer), table)


def led(named, company, stock, way):
    for index in way:
        company = done(named, company, stock[index])
    return company


class Ways(unittest.TestCase):
    def forgetful(self, seed, many):
        """Stocks of two named ones, in many of which some way makes all views one."""
        picker = Picker(seed)
        forget = (("takes", 0, 1, (0, 0, 0, 0)), ("tie", 0, 1, "part"), ("pairs", 0, (0, 0, 0, 0, 0, 0)))
        for _ in range(many):
            stock = [picker.shuffled(forget)[picker.below(2):] + pick_script(picker, 2, picker.below(2), 1) for _ in range(3)]
            yield picker, tuple(stock)

    def test_twins_stay_twins(self):
        picker = Picker(270)
        found = 0
        for named in (1, 2, 3):
            for _ in range(60):
                company = pick_company(picker, named + 2 + picker.below(3))
                script = pick_script(picker, named, 1 + picker.below(3))
                behind = done(named, company, script)
                found += len(twins_of(named, company)) < company[0] - named
                self.assertIsNone(torn_twins(named, company, behind))
                for group in twins_of(named, company):
                    self.assertTrue(any(set(group) <= set(other) for other in twins_of(named, behind)))
        self.assertGreater(found, 20)

    def test_twins_stay_twins_by_all_ways(self):
        for named in (1, 2, 3):
            company = (named + 3, ((0, named), (0, named + 1)))
            for other in companies_led(named, company, pick_stock(Picker(271), named, 2)):
                self.assertIsNone(torn_twins(named, company, other))

    def test_all_companies_become_one_just_if_all_views_do(self):
        told = []
        for picker, stock in self.forgetful(272, 90):
            way = forgetting_way(2, stock)
            self.assertIs(way is None, lasting_pair(2, stock) is not None)
            for some in [way or (0, 1)] + [picker.shuffled(range(3))[:2] for _ in range(2)]:
                views = {led(2, view, stock, some) for view in views_of(2)}
                told.append(len(views) == 1)
                for people in (2, 3, 4):
                    companies = {led(2, company, stock, some) for company in every_company(people)}
                    if people == 4 or len(views) == 1:
                        self.assertIs(len(companies) == 1, len(views) == 1)
                companies = {led(2, pick_company(picker, 7), stock, some) for _ in range(30)}
                if len(views) == 1:
                    self.assertEqual(len(companies), 1)
            if way is not None:
                self.assertTrue(told[-3])
        self.assertGreater(min(told.count(True), told.count(False)), 12)

    def test_all_parts_are_of_the_wish_just_if_all_views_are_led_into_it(self):
        told = []
        for picker, stock in self.forgetful(273, 40):
            some = [picker.below(64) for _ in range(6)] + [0, 1, 2]
            wish = tuple(sorted(set(some) | {turned_view(2, number) for number in some}))
            least = bringing_way(2, stock, wish)
            for way in [least or ()] + [picker.shuffled(range(3))[:picker.below(4)] for _ in range(3)]:
                within = all(view_number(2, led(2, view, stock, way)) in wish for view in views_of(2))
                parts = [part_of(2, led(2, pick_company(picker, 6), stock, way), pair) for pair in combinations(range(2, 6), 2)]
                if within:
                    self.assertTrue(all(view_number(2, part) in wish for part in parts))
                told.append(within)
            if least is not None:
                self.assertTrue(told[-4])
        self.assertGreater(min(told.count(True), told.count(False)), 20)


if __name__ == "__main__":
    unittest.main()
