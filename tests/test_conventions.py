"""Point 2: names of arguments, nothing modified, each list new."""

import inspect
import unittest
from copy import deepcopy

from twobesides import ahead, alikes, arms, barredahead, barredlots, closedrows, comings, companies, companytexts
from twobesides import companyviews, daybooks, doing, forgetting, guests, jointways, leadings, mostties, needless, onedeeds
from twobesides import onetoones, opposites, plaincompanies, roots, rounds, scripts, sided, sidedalike, starts, stayings
from twobesides import stops, summaries, summariesled, supplies, tellings, tiecounts, twins, views, weavings, wishes
from twobesides.errors import BesidesError

P = (4, ((0, 2), (1, 3)))
Q = (("takes", 0, 1, (0, 1, 1, 0)), ("ask", 0, 1, (), (("tie", 0, 1, "know"),)))
LOT = ((3, ((0, 2), (1, 2))), (4, ((0, 1), (2, 3))))
WISH = (1, 2, 4, 8, 18)
TURN, KNOW, PART = ((("tie", 0, 1, word),) for word in ("turn", "know", "part"))
SUMMARY = (((0, 1),), (1, 2, 0, 3), (0, 1, 0, 3, 1, 0, 6, 0, 0, 2))
SUPPLY = (("tie", 0, 1, "turn"), ("takes", 0, 1, (0, 1, 0, 1)))
FACTS = ((P, (4, ((0, 1), (0, 3), (1, 3)))), ((2, ()), (2, ((0, 1),))))
SIDED = (3, ((0, 1), (1, 2), (2, 0)), (0, 2))
SWAP = (("pairs", (0, 0, 0, 0, 1, 1, 1, 1) * 2), ("meets", (0, 1) * 4))
LIKED = (("liked", (0, 1, 0, 1, 0, 1, 0, 1)), ("moods", (1, 1, 0, 0, 0, 0, 1, 1)))
BOOK = (2, (3, ((0, 2),)), (("come", (0,)), ("deed", ("pairs", 0, (0, 0, 1, 1, 1, 1))), ("leave", 2), ("deed", KNOW[0])))

CALLS = [
    (companies.is_company, "named value", (2, P)),
    (companies.do_know, "named company person other", (2, P, 0, 1)),
    (companies.known_to, "named company person", (2, P, 0)),
    (companies.part_of, "named company besides", (2, P, (3, 2))),
    (scripts.is_script, "named value", (2, Q)),
    (scripts.count_deeds, "named script", (2, Q)),
    (scripts.depth_of, "named script", (2, Q)),
    (scripts.deeds_done, "named company script", (2, P, Q)),
    (doing.done, "named company script", (2, P, Q)),
    (doing.done_on, "named company script", (2, P, Q)),
    (views.views_of, "named", (2,)),
    (views.view_number, "named company", (2, P)),
    (views.table_of, "named script", (2, Q)),
    (companyviews.view_numbers, "named company", (2, P)),
    (companyviews.company_of_views, "named besides numbers", (1, 3, (2, 1, 4))),
    (companyviews.with_person, "named company people", (2, P, (0, 3))),
    (plaincompanies.plain_company, "named company", (2, P)),
    (plaincompanies.count_own_orders, "named company", (2, P)),
    (plaincompanies.company_number, "named company", (2, P)),
    (plaincompanies.company_at, "named people number", (2, 4, 18)),
    (plaincompanies.count_unlike, "named besides", (2, 3)),
    (opposites.opposite, "named company", (2, P)),
    (opposites.opposite_script, "named script", (2, Q)),
    (opposites.renamed_company, "named company order", (2, P, (1, 0))),
    (opposites.renamed_script, "named script order", (2, Q, (1, 0))),
    (companytexts.company_text, "named company", (2, P)),
    (companytexts.script_text, "named script", (2, Q)),
    (companytexts.read_company, "named text", (2, "4:0213")),
    (companytexts.read_script, "named text", (2, "g010110?01[/k01]")),
    (alikes.scripts_alike, "named script beside", (2, Q, ())),
    (alikes.parting_company, "named script beside", (2, Q, ())),
    (alikes.alike_classes, "named scripts", (2, (Q, (), Q))),
    (needless.needless_items, "named script", (2, Q)),
    (needless.spared_script, "named script", (2, Q)),
    (needless.exchanged_items, "named script", (2, Q)),
    (onedeeds.one_deed, "named script", (2, Q[:1])),
    (closedrows.count_tables, "named scripts", (2, (Q, Q[:1]))),
    (closedrows.least_way, "named scripts script", (2, (Q, Q[:1]), Q)),
    (barredlots.is_barred_lot, "named value", (2, LOT)),
    (barredlots.least_copy, "named small", (2, (4, ((0, 3), (1, 3))))),
    (barredlots.held_at, "named company small", (2, P, (3, ((1, 2),)))),
    (barredlots.is_clear, "named company lot", (2, P, LOT)),
    (barredlots.least_lot, "named lot", (2, LOT)),
    (barredlots.are_lots_alike, "named lot mate", (2, LOT, LOT[1:])),
    (barredlots.clear_apart, "named lot mate", (2, LOT, LOT[:1])),
    (barredlots.count_clear, "named lot people", (2, LOT, 4)),
    (barredahead.lot_ahead, "named script lot", (2, Q, LOT)),
    (barredahead.does_lead, "named script lot mate", (2, Q, LOT, LOT[1:])),
    (barredahead.company_fallen, "named script lot mate", (2, Q, LOT, LOT[:1])),
    (barredahead.shut_lot, "named stock lot", (2, (Q, Q[:1]), LOT)),
    (barredahead.led_from, "named script small", (2, Q[:1], P)),
    (onetoones.is_one_to_one, "named script", (2, Q)),
    (onetoones.least_twins, "named script", (2, Q)),
    (onetoones.undoing_table, "named script", (2, Q[:1])),
    (onetoones.undoing_times, "named script", (2, Q[:1])),
    (rounds.coming_round, "named script", (2, Q)),
    (rounds.company_round, "named company script", (2, P, Q)),
    (rounds.done_times, "named company script times", (2, P, Q, 5)),
    (rounds.table_times, "named script times", (2, Q, 5)),
    (roots.times_to, "named script other_script", (2, Q, Q[:1])),
    (comings.company_ahead, "named company script", (2, P, Q[:1])),
    (comings.count_ahead, "named company script", (2, P, Q)),
    (stayings.count_staying, "named script besides", (2, Q, 3)),
    (stayings.count_coming_back, "named script times besides", (2, Q, 5, 3)),
    (leadings.companies_led, "named company stock", (2, P, (Q, Q[:1]))),
    (leadings.count_ways, "named company goal stock many", (2, P, LOT[1], (Q, Q[:1]), 5)),
    (leadings.way_but_names, "named company goal stock", (2, P, LOT[1], (Q, Q[:1]))),
    (jointways.joint_way, "named pairs stock", (2, ((P, P), (LOT[0], LOT[0])), (Q, Q[:1]))),
    (twins.twins_of, "named company", (2, P)),
    (twins.torn_twins, "named company goal", (2, (4, ()), P)),
    (forgetting.lasting_pair, "named stock", (2, (Q, Q[:1]))),
    (forgetting.forgetting_way, "named stock", (2, (Q, Q[:1]))),
    (wishes.turned_view, "named number", (2, 5)),
    (wishes.bringing_way, "named stock wish", (2, (Q, Q[:1]), WISH)),
    (wishes.brought_views, "named stock wish", (2, (Q, Q[:1]), WISH)),
    (starts.starts_of, "named", (2,)),
    (starts.start_number, "named company", (2, P)),
    (starts.drawn_rows, "named script", (2, Q)),
    (arms.arms_met, "named script", (2, Q)),
    (arms.idle_choices, "named script", (2, Q)),
    (ahead.ahead_depth, "named script", (2, Q)),
    (ahead.ahead_script, "named script", (2, Q + Q)),
    (weavings.is_weaving, "named company script other_script value", (2, P, Q, TURN, (0, 1, 0, 0))),
    (weavings.woven, "named company script other_script weaving", (2, P, Q, TURN, (0, 1, 0))),
    (weavings.ends_of, "named company script other_script", (2, P, Q, TURN)),
    (weavings.never_quarrel, "named script other_script", (2, Q, TURN)),
    (weavings.quarrel_of, "named script other_script", (2, Q, TURN)),
    (stops.do_exchange, "named script other_script", (2, Q, TURN)),
    (stops.stops_alike, "named script other_script", (2, Q, TURN)),
    (summaries.is_summary, "named value", (2, SUMMARY)),
    (summaries.summary_of, "named company", (2, P)),
    (summaries.ties_of_summary, "named summary", (2, SUMMARY)),
    (summaries.company_for, "named summary", (2, SUMMARY)),
    (summariesled.summary_behind, "named summary script", (2, SUMMARY, Q)),
    (summariesled.summary_after, "named summary script times", (2, SUMMARY, Q, 5)),
    (summariesled.tie_form, "named script own", (2, Q, ((0, 1),))),
    (tiecounts.as_many_ties, "named script other_script", (2, Q, TURN)),
    (tiecounts.ties_parting, "named script other_script", (2, Q, TURN)),
    (tiecounts.as_many_known, "named script other_script one", (2, Q, TURN, 1)),
    (tiecounts.known_parting, "named script other_script one", (2, Q, TURN, 1)),
    (mostties.most_ties, "named script besides", (2, Q, 3)),
    (mostties.least_ties, "named script besides", (2, Q, 3)),
    (supplies.is_supply, "named value", (2, SUPPLY)),
    (supplies.are_facts, "named value", (2, FACTS)),
    (supplies.supply_row, "named supply facts", (2, SUPPLY, FACTS)),
    (supplies.count_supply_rows, "named supply facts many", (2, SUPPLY, FACTS, 5)),
    (supplies.twin_parts, "named facts", (2, FACTS)),
    (tellings.parted_by, "named company scripts", (2, P, (Q, TURN, ()))),
    (tellings.parted_at, "named start scripts", (2, (2, ((0, 1),)), (Q, TURN, ()))),
    (tellings.telling_starts, "named scripts", (2, (Q, TURN, ()))),
    (tellings.telling_company, "named start scripts", (2, (2, ((0, 1),)), (Q, TURN, ()))),
    (sided.is_sided, "value", (SIDED,)),
    (sided.are_sided_deeds, "value", (SWAP,)),
    (sided.sided_done, "sided deeds", (SIDED, SWAP)),
    (sidedalike.sided_alike, "deeds others", (SWAP, LIKED)),
    (sidedalike.sided_parting, "deeds others", (SWAP, LIKED)),
    (sidedalike.sided_round, "deeds", (SWAP,)),
    (sidedalike.keeps_mutual, "deeds", (LIKED,)),
    (daybooks.is_book, "value", (BOOK,)),
    (daybooks.book_companies, "book", (BOOK,)),
    (daybooks.exchanged_entries, "book", (BOOK,)),
    (guests.guests_of, "book", (BOOK,)),
    (guests.trail_of, "book person other", (BOOK, 0, 2)),
    (guests.without_guest, "book guest", (BOOK, 1)),
]


def with_lists(value):
    """The value with a list for each tuple in it."""
    return [with_lists(part) for part in value] if isinstance(value, tuple) else value


def lists_in_turn(value):
    """The values that have a list in the place of one of the tuples in a value."""
    if not isinstance(value, tuple):
        return []
    told = [list(value)]
    for at, part in enumerate(value):
        told += [value[:at] + (inner,) + value[at + 1:] for inner in lists_in_turn(part)]
    return told


class Conventions(unittest.TestCase):
    def test_names_of_arguments(self):
        for function, names, _ in CALLS:
            self.assertEqual(list(inspect.signature(function).parameters), names.split(), function.__name__)

    def test_arguments_stay_and_answers_do(self):
        for function, _, values in CALLS:
            before = deepcopy(values)
            told = function(*values)
            self.assertEqual(values, before, function.__name__)
            self.assertEqual(function(*values), told)

    def test_each_list_is_new(self):
        for function, _, values in CALLS:
            told = function(*values)
            if isinstance(told, list):
                kept = list(told)
                told.append(None)
                self.assertEqual(function(*values), kept, function.__name__)
                self.assertIsNot(function(*values), function(*values))

    def test_lists_in_the_place_of_tuples(self):
        for function, names, values in CALLS:
            for at, value in enumerate(values):
                if isinstance(value, tuple):
                    for wrong in [with_lists(value)] + lists_in_turn(value):
                        self.refused_and_left(function, names.split()[at], values[:at] + (wrong,) + values[at + 1:])

    def refused_and_left(self, function, name, values):
        before = deepcopy(values)
        if name == "value":
            self.assertIs(function(*values), False)
        else:
            with self.assertRaises(BesidesError):
                function(*values)
        self.assertEqual(values, before)

    def test_booleans_in_the_place_of_integers(self):
        for function, names, values in CALLS:
            for at, value in enumerate(values):
                for wrong in self.booleans_in_turn(value):
                    self.refused_and_left(function, names.split()[at], values[:at] + (wrong,) + values[at + 1:])

    def booleans_in_turn(self, value):
        """The values that have a boolean, equal to it where one is, in the place of one integer."""
        if isinstance(value, tuple):
            told = []
            for at, part in enumerate(value):
                told += [value[:at] + (inner,) + value[at + 1:] for inner in self.booleans_in_turn(part)]
            return told
        return [bool(value)] if isinstance(value, int) else []


if __name__ == "__main__":
    unittest.main()
