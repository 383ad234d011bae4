"""Point 3: what holds for woven scripts, summaries, facts, starts, sided scripts and day-books, at many that are worked out."""

import unittest

from tests.helpers import Picker, every_start, pick_book, pick_company, pick_deed, pick_script, pick_sided
from tests.helpers import pick_sided_script, short_script, slow_book, slow_deeds, slow_done, slow_know, slow_part, slow_sided
from tests.helpers import slow_summary, slow_weavings
from twobesides.ahead import ahead_script
from twobesides.daybooks import book_companies, is_book
from twobesides.doing import done
from twobesides.guests import guests_of, trail_of, without_guest
from twobesides.scripts import deeds_done
from twobesides.sided import sided_done
from twobesides.sidedalike import keeps_mutual, sided_alike, sided_parting, sided_round
from twobesides.summaries import summary_of
from twobesides.summariesled import summary_after, summary_behind
from twobesides.supplies import supply_row, twin_parts
from twobesides.tellings import parted_at, parted_by, telling_company, telling_starts
from twobesides.tiecounts import as_many_known, as_many_ties, known_parting, ties_parting
from twobesides.weavings import ends_of, never_quarrel, quarrel_of

SWAP = (("takes", 0, 1, (0, 1, 1, 0)), ("takes", 1, 0, (0, 1, 1, 0)), ("takes", 0, 1, (0, 1, 1, 0)))


class Ahead(unittest.TestCase):
    def test_the_part_for_no_besides_tells_which_deeds_are_done(self):
        picker = Picker(500)
        for named in (2, 3):
            for _ in range(60):
                script, company = pick_script(picker, named, 3), pick_company(picker, named + picker.below(10 - named))
                told = deeds_done(named, company, script)
                self.assertEqual(told, slow_deeds(slow_part(named, company, ()), script)[0])
                self.assertEqual(told, slow_deeds(company, script)[0])

    def test_a_drawn_out_script_does_the_same_to_companies_of_any_size(self):
        picker = Picker(501)
        for named in (1, 2, 3):
            for _ in range(20):
                script, company = pick_script(picker, named, 3), pick_company(picker, named + picker.below(12))
                self.assertEqual(slow_done(company, ahead_script(named, script)), slow_done(company, script))


class Woven(unittest.TestCase):
    def test_one_end_for_all_companies_just_if_for_those_with_two_besides(self):
        picker = Picker(502)
        told = []
        for named, many in ((1, 60), (2, 60), (3, 20)):
            for _ in range(many):
                script, other = short_script(picker, named, 3), short_script(picker, named, 2)
                told.append(never_quarrel(named, script, other))
                for company in [pick_company(picker, named + picker.below(8)) for _ in range(3)]:
                    ends = sorted(set(slow_weavings(company, script, other).values()))
                    if company[0] < 10:
                        self.assertEqual(ends_of(named, company, script, other), ends)
                    if told[-1]:
                        self.assertEqual(len(ends), 1)
                if not told[-1]:
                    company, one, two = quarrel_of(named, script, other)
                    self.assertEqual(company[0], named + 2)
                    self.assertGreater(len(ends_of(named, company, script, other)), 1)
        self.assertGreater(min(told.count(True), told.count(False)), 20)


class Summaries(unittest.TestCase):
    def test_what_comes_has_the_summary_that_comes_of_the_summary(self):
        picker = Picker(503)
        for named in (1, 2, 3):
            for _ in range(60):
                company, script = pick_company(picker, named + picker.below(10 - named)), pick_script(picker, named, 3)
                summary = summary_of(named, company)
                self.assertEqual(summary_behind(named, summary, script), summary_of(named, done(named, company, script)))
                twice = done(named, done(named, company, script), script)
                self.assertEqual(summary_after(named, summary, script, 2), summary_of(named, twice))

    def test_it_is_the_same_for_all_companies_with_a_summary(self):
        picker = Picker(504)
        for named in (1, 2, 3):
            for _ in range(20):
                company, script = pick_company(picker, named + 9), pick_script(picker, named, 3)
                order = picker.shuffled(range(named, named + 9))
                other = slow_part(named, company, order)
                self.assertEqual(slow_summary(named, other), slow_summary(named, company))
                told = slow_summary(named, slow_done(company, script))
                self.assertEqual(slow_summary(named, slow_done(other, script)), told)
                self.assertEqual(summary_behind(named, slow_summary(named, company), script), told)

    def test_as_many_ties_in_all_companies_just_if_in_those_with_two_besides(self):
        picker = Picker(505)
        told = []
        for named in (1, 2, 3):
            for _ in range(40):
                script = pick_script(picker, named, picker.below(3), 1)
                changes = [script + script, (), script + SWAP if named > 1 else script, pick_script(picker, named, 2, 1)]
                other = picker.one_of(changes)
                told.append(as_many_ties(named, script, other))
                companies = [pick_company(picker, named + picker.below(9)) for _ in range(20)]
                counts = [len(slow_done(company, script)[1]) == len(slow_done(company, other)[1]) for company in companies]
                if told[-1]:
                    self.assertNotIn(False, counts)
                else:
                    company = ties_parting(named, script, other)
                    self.assertLessEqual(company[0], named + 2)
                    self.assertNotEqual(len(slow_done(company, script)[1]), len(slow_done(company, other)[1]))
        self.assertGreater(min(told.count(True), told.count(False)), 20)

    def test_known_to_as_many_in_all_companies_just_if_in_those_with_one_besides(self):
        picker = Picker(506)
        told = []
        for named in (1, 2, 3):
            for _ in range(40):
                script = pick_script(picker, named, picker.below(3), 1)
                other = picker.one_of([script + pick_script(picker, named, 1, 0), pick_script(picker, named, 1, 1), ()])
                for one in range(named):
                    told.append(as_many_known(named, script, other, one))
                    if not told[-1]:
                        self.assertLessEqual(known_parting(named, script, other, one)[0], named + 1)
                    for company in [pick_company(picker, named + picker.below(9)) for _ in range(8)]:
                        counts = [sum(slow_know(slow_done(company, some), one, person) for person in range(company[0]) if person != one)
                                  for some in (script, other)]
                        if told[-1]:
                            self.assertEqual(counts[0], counts[1])
        self.assertGreater(min(told.count(True), told.count(False)), 20)


class Facts(unittest.TestCase):
    def test_no_script_does_facts_with_twin_parts(self):
        picker = Picker(507)
        told = []
        for named in (1, 2, 3):
            for _ in range(60):
                companies = [pick_company(picker, named + picker.below(4)) for _ in range(1 + picker.below(3))]
                script = tuple(pick_deed(picker, named) for _ in range(2))
                facts = [(company, slow_done(company, script)) for company in companies]
                if picker.below(2):
                    facts[-1] = (facts[-1][0], pick_company(picker, facts[-1][0][0]))
                told.append(twin_parts(named, tuple(facts)))
                if told[-1] is not None:
                    self.assertIsNone(supply_row(named, script, tuple(facts)))
                    for some in [script] + [pick_script(picker, named, 2) for _ in range(5)]:
                        self.assertFalse(all(slow_done(ahead, some) == behind for ahead, behind in facts))
                    index, besides, other_index, other_besides = told[-1]
                    (one, one_behind), (other, other_behind) = facts[index], facts[other_index]
                    self.assertEqual(slow_part(named, one, besides), slow_part(named, other, other_besides))
                    self.assertNotEqual(slow_part(named, one_behind, besides), slow_part(named, other_behind, other_besides))
        self.assertGreater(min(told.count(None), len(told) - told.count(None)), 15)


class Starts(unittest.TestCase):
    def test_what_companies_with_one_start_part_one_company_does(self):
        picker = Picker(508)
        for named, many in ((1, 20), (2, 20), (3, 8)):
            for _ in range(many):
                scripts = tuple(pick_script(picker, named, picker.below(3)) for _ in range(3))
                parted = set()
                for start in every_start(named):
                    company = telling_company(named, start, scripts)
                    self.assertEqual(slow_part(named, company, ()), start)
                    told = parted_by(named, company, scripts)
                    self.assertEqual(told, parted_at(named, start, scripts))
                    parted |= set(told)
                    for _ in range(6):
                        other = pick_company(picker, named + 4)
                        other = (other[0], tuple(sorted(start[1] + tuple(tie for tie in other[1] if tie[1] >= named))))
                        self.assertLessEqual(set(parted_by(named, other, scripts)), set(told))
                starts = telling_starts(named, scripts)
                self.assertEqual({pair for start in starts for pair in parted_at(named, start, scripts)}, parted)


class Sided(unittest.TestCase):
    def test_the_same_to_all_just_if_to_those_with_three_people(self):
        picker = Picker(509)
        told = []
        for _ in range(80):
            deeds = pick_sided_script(picker, picker.below(3))
            kept = picker.one_of([("pairs", (0,) * 8 + (1,) * 8), ("moods", (0, 1) * 4), ("liked", (0, 0, 1, 1) * 2)])
            others = picker.one_of([deeds + (kept,), (kept,) + deeds, pick_sided_script(picker, 1)])
            told.append(sided_alike(deeds, others))
            if told[-1]:
                for sided in [pick_sided(picker, 1 + picker.below(6)) for _ in range(10)]:
                    self.assertEqual(sided_done(sided, deeds), slow_sided(sided, others))
            else:
                self.assertLessEqual(sided_parting(deeds, others)[0], 3)
        self.assertGreater(min(told.count(True), told.count(False)), 15)

    def test_rounds_and_mutual_knowing_of_greater_companies(self):
        picker = Picker(510)
        for _ in range(30):
            deeds = pick_sided_script(picker, 1 + picker.below(2))
            beginning, whole = sided_round(deeds)
            for sided in [pick_sided(picker, 6) for _ in range(3)]:
                once = slow_sided(sided, deeds * beginning)
                self.assertEqual(slow_sided(once, deeds * whole), once)
                mutual = (6, tuple(sorted(set(sided[1]) | {pair[::-1] for pair in sided[1]})), sided[2])
                if keeps_mutual(deeds):
                    behind = slow_sided(mutual, deeds)
                    self.assertTrue(all(pair[::-1] in behind[1] for pair in behind[1]))


class Books(unittest.TestCase):
    def test_without_a_guest_the_others_know_one_another_as_they_did(self):
        picker = Picker(511)
        for named in (1, 2, 3):
            for _ in range(30):
                book = pick_book(picker, named, picker.below(12), named + picker.below(4))
                for guest, (came, number, left) in enumerate(guests_of(book)):
                    told = without_guest(book, guest)
                    self.assertIs(is_book(told), True)
                    place, others = (number if came < 0 else None), []
                    for index, company in enumerate(book_companies(book)):
                        entry = book[2][index - 1] if index > 0 else ("", None)
                        if index == came + 1 and index > 0:
                            place = number
                        elif left is not None and index == left + 1:
                            place = None
                        elif entry[0] == "leave" and place is not None and entry[1] < place:
                            place -= 1
                        stay = [person for person in range(named, company[0]) if person != place]
                        if index == 0 or index - 1 not in (came, left):
                            others.append(slow_part(named, company, stay))
                    self.assertEqual(book_companies(told), others)

    def test_trails_tell_who_knows_whom_at_last(self):
        picker = Picker(512)
        for named in (1, 2, 3):
            for _ in range(30):
                book = pick_book(picker, named, 10, named + 2)
                companies = slow_book(book)
                people = companies[-1][0]
                for person in range(people - 1):
                    trail = trail_of(book, person, people - 1)
                    self.assertEqual(trail, trail_of(book, people - 1, person))
                    self.assertEqual(trail, tuple(sorted(set(trail))))
                    for index in trail:
                        self.assertIn(book[2][index][0], ("deed", "come"))


if __name__ == "__main__":
    unittest.main()
