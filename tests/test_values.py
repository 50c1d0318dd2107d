"""Point 1: kinds of values; no call changes its arguments, and objects copy what they are made of."""

import copy
import unittest

from newsbooks import (
    acts, bases, basetables, beside, bridges, cases, chains, clashes, coming, comparisons, desks, desktexts, distances,
    explaining, facts, families, fewasks, firsts, folds, forms, givewishes, givings, groups, groupwishes, journals,
    keeping, kinds, leadrows, lots, manyorders, moving, narrowing, nearest, nexts, orderings, orders, pairrules,
    pairtables, parting, peeling, products, pushrows, ranks, ranktexts, reach, readings, relations, rests, rowtables,
    sentences, sinks, splitting, stretches, sums, tables, turning, turnwishes, untold, untouched, wishes)

FACTS = facts.Facts(["a", "b"], [2, 2], [(0, 1)])
RANK = ranks.Rank([(1,), (2, 0), (3,)])
TABLE = tables.Table.of_relation(3, [(0, 2)])
TOLD = [[0, "<=", 2], [2, "<=", 0], [0, "<", 1]]
TORN = [[0, "<=", 2], [2, "<", 0], [0, "<", 1]]
ANSWERS = [[[1, 0], [1]], [[1], [1]], [[0], [0]]]
CLASSES = [[2, 0], [1], [3]]
CASES = [[[2, 0], [0]], [[1, 0], [1, 0]]]
GIVEN = [[[1], [1, 0]], [[], [1]], [[0], [1, 0]]]
SECOND = [[[0], [0], [0]]]
MANY = cases.Told(3, CASES)
TORN_CASES = cases.Told(2, [[[1, 0], [0]], [[1, 0], [1]]])
GIVING = givings.Giving(2, GIVEN)
ROW_TABLE = rowtables.RowTable.of_rank(ranks.Rank([[1], [2, 0]]), "push")
NEWS = [[1, 0], [2], [2, 1]]
ENTRIES = [["lean", [1, 0], [0]], ["ask", [2, 1], [1]], ["back", [], [0]]]
DEEDS = [["lead", [3, 1]], ["back", []], ["sink", [1]]]
BLOCKS = [[[0, 2], True, [1, 0]], [[1], False, [0]]]
JOURNAL = journals.Journal(3, [0], ENTRIES)
TORN_JOURNAL = journals.Journal(2, [0], [["ask", [1, 0], [1]]])
FORM = forms.Form(3, BLOCKS)
PUTS = [["put", [1, 0], [0]], ["ask", [2, 1], [2]]]
FULL = facts.Facts(["a", "b"], [2, 2])
FAMILY = [[1, 0], [3, 1], [1, 0]]
CHANGES = [[[0], [0], [0]], [[0], [1], [1]], [[0], [1, 0], [0]], [[1], [0], [0]], [[1], [1], [1]], [[1], [1, 0], [1]],
           [[1, 0], [0], [0]], [[1, 0], [1], [1]], [[1, 0], [1, 0], [1, 0]]]
PAIR_TABLE = pairtables.PairTable(2, CHANGES)
MOVES = [[[0], [], [0]], [[0], [0], [1, 0]], [[0], [1], [0]], [[1], [], [1]], [[1], [0], [1]], [[1], [1], [1, 0]],
         [[1, 0], [], [1, 0]], [[1, 0], [0], [1, 0]], [[1, 0], [1], [1, 0]]]
TWO_TABLES = [tables.Table.of_rank(ranks.Rank.two([world], 2)) for world in (0, 1)]
APART = [[0, 1, 2], [1, 0, 1], [2, 1, 0]]
DISTANCE = distances.Distance(APART)
THREE_RANKS = [ranks.Rank.two([world], 3) for world in (0, 1, 2)]
RING_RANKS = [ranks.Rank.strict(order) for order in ([0, 1, 2], [1, 2, 0], [2, 0, 1])]
RING = [[[0, 1], "<", [0, 2]], [[2, 0], "<", [2, 1]], [[1, 2], "<", [1, 0]]]
RULE_PAIRS = [[[1], 1], [[0], 0], [[-1], -1]]
RULE = pairrules.PairRule(1, RULE_PAIRS)
BOOKS = [[2, 1], [0]]
RANKED = [[[[2, 1], [0]], ranks.Rank.flat(3)], [[[0]], ranks.Rank([[1], [2, 0]])]]
GROUPED = groups.GroupTable(3, RANKED)
DIRECTED = sums.Directed([[0, 1, 2], [3, 0, 1], [2, 1, 0]])
BASE = [[1, 0], [2, 1], [2, 0]]
STAYING = [[[1], [1]], [[0], []], [[], [1, 0]]]
TWO_LOTS = [[1, 0], [1]]
BASED = basetables.BaseTable(TWO_LOTS, 2, STAYING)
CHOOSE = [[[[0, 1]], [[1, 0]]], [[[0]], [[0], [0]]]]
DESK = desks.desk_of(RANK, DEEDS)
OBJECTS = (facts.Facts, ranks.Rank, chains.Chains, turning.Deed, narrowing.Narrowing, tables.Table, cases.Told,
           givings.Giving, rowtables.RowTable, journals.Journal, forms.Form, readings.Reading, peeling.Peel,
           pairtables.PairTable, distances.Distance, pairrules.PairRule, groups.GroupTable, sums.Directed,
           basetables.BaseTable, desks.Desk)

CALLS = [
    (lots.lot_of, [2, 0], 3), (lots.rest_of, [2, 0], 3), (lots.every, 3), (lots.plus, [2, 0], [1]),
    (lots.common, [2, 0], [0, 2]), (lots.minus, [2, 0], [2]), (lots.inside, [2, 0], [0, 2]), (lots.meets, [2], [2]),
    (lots.lot_before, [2, 0], [1, 0]),
    (facts.Facts, ["a", "b"], [2, 2], [[0, 1], [0, 1]]), (FACTS.alike_classes, [1, 0]), (FACTS.hangs_on, [2, 0]),
    (FACTS.told_by, [2, 0], [1, 0]), (FACTS.shadow, [2], [1]), (FACTS.floor, [2, 0], [0]), (FACTS.row_of, 1),
    (sentences.lot_said, FACTS, "a=0 or b=1"), (sentences.plain, FACTS, [2, 0]),
    (families.common_parts, [[2, 0], [0]], 3), (families.union_closed, [[2, 0], [1]], 3),
    (families.contrary_closed, [[2, 0], [1]], 3), (families.is_union_closed, [[2, 0], [1]], 3),
    (families.is_part_closed, [[2, 0], [1]], 3), (families.fewest_parts, [[2, 0], [1, 0]], 3, [0]),
    (ranks.Rank, [[1], [2, 0]]), (ranks.Rank.strict, [1, 0]), (ranks.Rank.of_levels, [3, 1, 3]),
    (ranks.Rank.two, [2, 0], 3), (RANK.best, [3, 2, 0]), (RANK.behind_best, [3, 2, 0]), (RANK.beginnings,),
    (RANK.is_before, 1, 0), (RANK.is_alike, 2, 0), (RANK.place_of, 3), (len, RANK),
    (comparisons.comparisons_of, TOLD, 3), (comparisons.first_broken, RANK, TOLD), (comparisons.keeps, RANK, TOLD),
    (chains.Chains, 3, TOLD), (chains.Chains(3, TOLD).chain, 0, 1), (chains.Chains(3, TOLD).strict_chain, 2, 1),
    (chains.Chains(3, TOLD).alike_lots,), (chains.Chains(3, TOLD).reaches, 0, 1),
    (chains.ring_of, 3, TOLD), (chains.ring_of, 3, TORN), (chains.is_ring, 3, TORN, [1, 0]),
    (keeping.least_rank, 3, TOLD), (keeping.before_in_all, 3, TOLD, 0, 1), (keeping.fewest_cells, 3, TOLD),
    (keeping.most_cells, 3, TOLD), (keeping.some_keeping, 3, TOLD, 2), (keeping.is_spare, 3, TOLD, 1),
    (keeping.same_keeping, 3, TOLD, TORN), (firsts.first_lots, 3, TOLD, [2, 0]), (firsts.count_keeping, 3, TOLD),
    (firsts.keeping_ranks, 3, TOLD), (firsts.best_lots, 3, TOLD, [1, 0]), (firsts.in_some, 3, TOLD, [1, 0]),
    (firsts.in_all, 3, TOLD, [2, 0]),
    (turning.led, RANK, [3, 0]), (turning.pushed, RANK, [3, 0]), (turning.leaned, RANK, [3, 0]),
    (turning.levelled, RANK, [3, 1]), (turning.sunk, RANK, [3, 1]), (turning.turned, RANK, "lead", [3, 1]),
    (turning.answer_of, RANK, "ask", [3, 2]), (turning.deed_named, "lean", [3, 1], 4),
    (products.products, RANK, RANK), (products.opposite, RANK, ranks.Rank.flat(4)), (products.two_cells, RANK),
    (narrowing.classes_of, CLASSES, 4), (narrowing.met, CLASSES, [3, 0]), (narrowing.is_whole, CLASSES, [2, 0]),
    (narrowing.spread, CLASSES, [2, 0]), (narrowing.coarser, CLASSES, [[3, 1], [2, 0]]),
    (narrowing.Narrowing, CLASSES, 4), (narrowing.Narrowing(CLASSES, 4), RANK), (ranktexts.rank_text, RANK),
    (tables.Table, 2, ANSWERS), (TABLE.answer, [2, 0]), (tables.Table.of_orders, [[1, 0], [0, 1]]),
    (tables.Table.of_relation, 3, [[0, 2], [0, 2]]), (tables.Table.of_stretches, [0, 1], [0, 5]),
    (wishes.first_break, TABLE, "arrow"), (wishes.kinds_of, TABLE), (relations.ahead_of, TABLE),
    (relations.relation_behind, TABLE), (relations.is_going_on, [[0, 1], [1, 2]]),
    (orders.fits_table, [1, 0, 2], TABLE), (orders.orders_behind, TABLE), (orders.order_for, TABLE, [2, 1], 1),
    (orders.torn_lot, TABLE), (orders.is_torn, TABLE, [2, 1]), (stretches.stretches_behind, TABLE),
    (cases.Told, 3, CASES), (MANY.given_by, ranks.Rank.flat(3)), (MANY.with_case, [2, 1], [1]), (len, MANY),
    (cases.told_of, TABLE, [[2, 0], [1]]), (untold.rank_told, MANY), (untold.told_ring, TORN_CASES),
    (untold.is_told_ring, TORN_CASES, [[0, 0, "<", 1], [1, 1, "<", 0]]), (untold.can_answer, MANY, [2, 1]),
    (untold.forced, MANY, [2, 1]), (untold.told_some, MANY, [2, 1]), (untold.told_all, MANY, [2, 1]),
    (untold.count_told, MANY), (untold.arrow_break, TORN_CASES), (untold.union_told, MANY), (untold.pairs_told, MANY),
    (fewasks.asks_for, RANK), (fewasks.unseen_pair, [[1, 0], [2]], 3), (fewasks.tells_apart, [[1, 0]], 2),
    (fewasks.long_ring, 4), (manyorders.fits_told, [1, 0, 2], MANY), (manyorders.torn_told, TORN_CASES),
    (manyorders.narrowed_told, MANY, 1, 1), (manyorders.orders_told, MANY), (manyorders.why_no_orders, TORN_CASES),
    (givings.Giving, 2, GIVEN), (GIVING.kept, [1]), (givings.Giving.level_of, RANK), (givings.Giving.sink_of, RANK),
    (len, GIVING), (bridges.put_from, GIVING), (bridges.give_from, TABLE), (givewishes.give_break, GIVING, "hold"),
    (givewishes.has_give, GIVING, "rise"), (givewishes.keeps_tied, TABLE), (givewishes.half_arrow, TABLE),
    (sinks.rank_of_sinks, GIVING), (sinks.rank_of_levels, GIVING), (sinks.kept_chain, GIVING),
    (sinks.count_between, 3, [2, 0]), (sinks.is_between, givings.Giving.level_of(ranks.Rank.flat(3)), TABLE),
    (turnwishes.turn_break, RANK, [3, 1], ranks.Rank.flat(4), "gains"), (turnwishes.begins_best, RANK, [3, 1], RANK),
    (turnwishes.has_shape, RANK, [3, 1], ranks.Rank.flat(4), "stays"), (turnwishes.is_next, RANK, [3, 1], RANK),
    (nexts.count_next, RANK, [3, 1]), (nexts.next_held, RANK, [3, 1], [3, 0]), (nexts.settled, [3, 1], [3, 0]),
    (nexts.turns_alike, RANK, [3, 1], "lead", "push"), (rowtables.RowTable, tables.Table(1, [[[0], [0]]]), SECOND),
    (ROW_TABLE.held_behind, [2, 0], [1, 0]), (rowtables.RowTable.of_rank, ranks.Rank([[1], [2, 0]]), "lean"),
    (rowtables.row_break, ROW_TABLE, "lead"), (rowtables.row_rank, ROW_TABLE, "push"),
    (folds.news_of, NEWS, 3), (folds.led_row, RANK, NEWS), (folds.pushed_row, RANK, NEWS),
    (folds.leaned_row, RANK, NEWS), (folds.fold, NEWS, 3, [2, 0]), (folds.row_answer, RANK, NEWS, [2, 0]),
    (folds.taken_news, NEWS, 3), (folds.is_fold, NEWS, 3, [2, 0], [2], [1, 2]),
    (acts.act_of, NEWS, 3), (acts.same_act, NEWS, [[2]], 3), (acts.is_idle, NEWS, 3, 1), (acts.idle_shape, NEWS, 3, 1),
    (acts.without_doubles, NEWS, 3), (acts.may_change, [1, 0], [1], "lead", 2),
    (journals.Journal, 3, [2, 0], ENTRIES), (journals.Journal.begin, 3, [2, 0]), (len, JOURNAL),
    (JOURNAL.with_entry, "level", [1, 0], [2, 0]), (JOURNAL.standing,), (JOURNAL.is_over, [[1, 0], [2, 1]]),
    (journals.journal_of, RANK, DEEDS), (journals.gives, ranks.Rank([[0], [1, 2]]), JOURNAL),
    (forms.Form, 3, BLOCKS), (forms.Form.at_start, 3), (FORM.block_of, [2, 1]), (FORM.means, ranks.Rank.flat(3)),
    (FORM.next_form, "lean", [2, 1], [2], [2]), (readings.Reading, JOURNAL), (readings.may_have_given, JOURNAL),
    (readings.count_given, JOURNAL), (readings.why_none, TORN_JOURNAL),
    (readings.is_why, TORN_JOURNAL, ["ring", [[-1, 0, "<", 1], [0, 1, "<", 0]]]),
    (coming.can_come, JOURNAL, "sink", [1, 0]), (coming.must_come, JOURNAL, "lead", [2, 0]),
    (coming.come_some, JOURNAL, [2, 1]), (coming.come_all, JOURNAL, [2, 1]),
    (coming.why_not, JOURNAL, "ask", [2, 1], [2]), (parting.parted_by, RANK, ranks.Rank.flat(4), [[2, 0], [1]]),
    (parting.parting_deeds, ranks.Rank([[0], [1, 2]]), ranks.Rank([[0], [1], [2]]), [[2, 1], [2]]),
    (parting.joined_ring, JOURNAL, JOURNAL), (parting.joined_ring, TORN_JOURNAL), (parting.joined_rank, JOURNAL),
    (parting.narrowed_journal, JOURNAL, [[2], [1], [0]]), (kinds.kinds_that_fit, 3, [0], PUTS),
    (kinds.first_parting, 3, [0], PUTS, ["lead"], ["push"]), (leadrows.steps_down, ranks.Rank.flat(4), RANK),
    (leadrows.fewest_leads, RANK, RANK), (leadrows.lead_row, ranks.Rank.flat(4), RANK), (leadrows.halving, 5),
    (leadrows.fewest_act, RANK), (leadrows.act_row, RANK), (pushrows.rising_end, RANK, RANK),
    (pushrows.fewest_pushes, ranks.Rank.flat(4), RANK), (pushrows.push_row, ranks.Rank.flat(4), RANK),
    (peeling.Peel, ranks.Rank.flat(4), RANK, FAMILY), (peeling.Peel(ranks.Rank.flat(4), RANK, [[1], [2, 1, 0]]).news,),
    (peeling.Peel(RANK, RANK, FAMILY).leads,), (peeling.peel_paper, ranks.Rank.flat(4), RANK, FAMILY),
    (peeling.is_peel_paper, ranks.Rank.flat(2), ranks.Rank([[0], [1]]), [], [[[1, 0]], [1, 0], []]),
    (peeling.leads_any_way, ranks.Rank.flat(4), RANK, [[2, 1, 0], [1]], 3), (reach.can_be_held, RANK, FAMILY),
    (reach.news_for, RANK, FAMILY, [0]), (reach.fewest_levels, RANK, ranks.Rank.flat(4)),
    (reach.level_row, RANK, ranks.Rank.flat(4)), (reach.one_sink, RANK, ranks.Rank.flat(4)),
    (reach.flat_by_sink, RANK), (reach.everywhere, 5), (reach.strict_by_one, 5), (splitting.share, FULL, [3, 1], [1]),
    (splitting.lot_of_shares, FULL, [[1], [0]], [[[1], [0]], [[1]]]), (splitting.splits_on, FULL, [3, 1], [1]),
    (splitting.finest_parting, FULL, [3, 0]), (splitting.parts_of, FULL, [3, 1]),
    (splitting.is_parting_of, FULL, [3, 1], [[1], [0]]), (untouched.other_share, FULL, RANK, [1, 0]),
    (untouched.touched_by, FULL, RANK, [1]), (untouched.has_slices, FULL, RANK, [1]),
    (untouched.keeps_share, FULL, RANK, [1], [3, 1]), (beside.narrowed_to, FULL, RANK, [1]),
    (beside.beside, FULL, RANK, [1]), (beside.beside_break, FULL, RANK, [1]),
    (beside.two_stores, FULL, RANK, [1], [[3, 1], [1, 0]]), (beside.run_about, FULL, RANK, [1], [["lead", [3, 1]]]),
    (pairtables.PairTable, 2, CHANGES), (PAIR_TABLE.changed, [1, 0], [1, 0]), (PAIR_TABLE.row_for, [1, 0]),
    (pairtables.PairTable.of_tables, TWO_TABLES[:1] * 3), (pairtables.pair_break, PAIR_TABLE, "both"),
    (pairtables.pair_break, distances.put_by(DISTANCE), "mono"), (moving.moving_of, TWO_TABLES),
    (moving.tables_behind, PAIR_TABLE), (moving.book_break, distances.move_by(DISTANCE), "single"),
    (moving.give_moves, PAIR_TABLE), (moving.move_back, 2, MOVES), (clashes.clash_cases, 1),
    (clashes.clash_break, distances.put_by(DISTANCE), 2), (distances.Distance, APART), (DISTANCE.between, 0, 2),
    (DISTANCE.nearest, [2, 0], [1]), (DISTANCE.ranks,), (distances.keeps_ways, DISTANCE),
    (distances.put_by, DISTANCE), (distances.move_by, DISTANCE), (distances.one_distance, THREE_RANKS),
    (distances.distance_ring, RING_RANKS), (distances.is_distance_ring, RING_RANKS, RING),
    (nearest.put_comparisons, PAIR_TABLE), (nearest.put_ring, PAIR_TABLE), (nearest.distance_behind, PAIR_TABLE),
    (nearest.could_be_nearest, THREE_RANKS, [1, 0], [2]), (nearest.must_be_nearest, THREE_RANKS, [1, 0], [2]),
    (pairrules.PairRule, 1, RULE_PAIRS), (pairrules.PairRule.of_row, 2, [[1, -1], [0, 1]]), (RULE.sign_of, [-1]),
    (pairrules.sign_at, RANK, 0, 1), (pairrules.merged, RULE, [RANK]), (pairrules.always_merges, RULE),
    (pairrules.is_unanimous, RULE), (pairrules.row_behind, RULE), (pairrules.bad_ranks, RULE),
    (pairrules.rules_counted, 3), (groups.group_of, BOOKS, 3), (groups.both_groups, BOOKS, [[2]]),
    (groups.GroupTable, 3, RANKED), (GROUPED.rank_of, BOOKS), (GROUPED.best_of, BOOKS, [2, 0]),
    (groupwishes.group_break, GROUPED, "shared"), (groupwishes.group_shape, GROUPED, "fair"),
    (sums.Directed, [[0, 1], [2, 0]]), (DIRECTED.far, [2, 0], 1), (DIRECTED.is_even,),
    (sums.sums_rank, DIRECTED, BOOKS), (sums.worsts_rank, DIRECTED, BOOKS), (sums.sums_table, DIRECTED, BOOKS),
    (sums.worsts_table, DIRECTED, BOOKS), (sums.weighted, [2, 0], [1, 4], 3), (sums.times_needed, [2, 0], [1, 4]),
    (sums.news_numbers, NEWS, 3), (bases.base_of, BASE, 3), (bases.sublist_of, BASE, 3, [2, 0]),
    (bases.says, BASE, 3, [2, 0]), (bases.carries, BASE, 3, [2, 0], [1, 0]), (bases.all_sublists, 2),
    (bases.whole_base, 3, [2, 0]), (rests.rests, BASE, 3, [1]), (rests.kernels, BASE, 3, [1]),
    (rests.in_every_rest, BASE, 3, [1]), (rests.in_no_kernel, BASE, 3, [1]), (rests.is_rest, BASE, 3, [1], [2, 0]),
    (rests.hitting, [[1, 0], [2]], 3), (rests.left_out, [2, 0], 4), (basetables.BaseTable, TWO_LOTS, 2, STAYING),
    (basetables.BaseTable.of_choice, TWO_LOTS, 2, CHOOSE), (basetables.BaseTable.of_first, BASE, 3),
    (basetables.BaseTable.of_all, BASE, 3), (BASED.stays_with, [1]), (basetables.base_break, BASED, "same"),
    (basetables.choice_behind, basetables.BaseTable.of_all(BASE, 3)), (basetables.falls_behind, BASED),
    (basetables.falls_behind, basetables.BaseTable.of_all(BASE, 3)), (basetables.is_joined, BASED),
    (basetables.said_table, BASED), (orderings.taken_in, BASE, 3, [2, 0, 1]), (orderings.all_taken, BASE, 3),
    (orderings.held_over_orders, ranks.Rank([[1], [2, 0]]), BASE), (orderings.base_rank, BASE, 3),
    (orderings.greedy, BASE, 3, [2, 0]), (orderings.short_base, RANK), (desks.Desk, 3, [2, 0]),
    (DESK.could, "ask", [3, 0]), (DESK.must, "lead", [3, 1]), (DESK.some, [3, 0]), (DESK.sure, [3, 0]),
    (DESK.ranks_left,), (DESK.least,), (DESK.what_if, [["ask", [3, 1], [1]]], "ask", [1, 0]), (DESK.same_as, DESK),
    (DESK.joined_with, DESK), (desks.trial_of, DESK, [["ask", [3, 1], [1]]]), (desks.remade, DESK),
    (desks.desk_of, RANK, DEEDS), (explaining.why_not_held, DESK, "ask", [3, 1], [3]),
    (explaining.chain_for, DESK, 1, 0), (explaining.why_sure, DESK, [3, 1]), (explaining.taken_reason, RANK, FAMILY),
    (explaining.listing, DESK), (desktexts.journal_text, JOURNAL), (desktexts.journal_from, "worlds 2 held 0"),
    (desktexts.table_text, TABLE), (desktexts.table_from, "worlds 1 table\n0 > 0"), (desktexts.news_text, NEWS, 3),
    (desktexts.news_from, "0,1 ; 2", 3),
]


def frozen(value):
    """The value with tuples in the place of lists."""
    return tuple(frozen(part) for part in value) if isinstance(value, (list, tuple)) else value


def told(value):
    """The value with what its objects tell in the place of the objects."""
    if isinstance(value, tuple):
        return tuple(told(part) for part in value)
    return (type(value).__name__, vars(value)) if isinstance(value, OBJECTS) else value


def begun_desk(family):
    return desks.Desk(4, [3], family=family)


class ValuesTest(unittest.TestCase):
    def check_kind(self, value):
        if not isinstance(value, OBJECTS):
            self.assertIn(type(value), (tuple, int, str, bool, type(None)))
        if isinstance(value, tuple):
            for part in value:
                self.check_kind(part)

    def test_01_no_call_changes_its_arguments(self):
        for call, *args in CALLS:
            with self.subTest(call=call, args=args):
                before = copy.deepcopy([part for part in args if not isinstance(part, OBJECTS)])
                call(*args)
                self.assertEqual([part for part in args if not isinstance(part, OBJECTS)], before)

    def test_01_lists_and_tuples_give_equal_answers_of_the_right_kinds(self):
        for call, *args in CALLS:
            with self.subTest(call=call, args=args):
                found = call(*args)
                self.check_kind(found)
                self.assertEqual(told(call(*args)), told(found))
                self.assertEqual(told(call(*frozen(args))), told(found))

    def test_01_objects_tell_tuples(self):
        for thing in (FACTS, RANK, TABLE, chains.Chains(3, TOLD), turning.Deed([2, 0], 3), MANY, GIVING, ROW_TABLE,
                      JOURNAL, FORM, readings.Reading(JOURNAL), narrowing.Narrowing(CLASSES, 4), ranks.Rank.strict([1, 0]),
                      peeling.Peel(RANK, RANK, FAMILY), DISTANCE, RULE, GROUPED, DIRECTED, BASED, DESK,
                      desks.Desk(2, [0], family=[[1, 0]])):
            for name in ("names", "counts", "rows", "cells", "levels", "comparisons", "classes", "pairs", "lot",
                         "cases", "sources", "table", "beginning", "entries", "now", "blocks", "forms", "fallen",
                         "family", "taken", "pieces", "size", "groups", "base", "told_held", "journal_now"):
                if hasattr(thing, name):
                    self.check_kind(getattr(thing, name))

    def test_01_later_changes_change_no_object(self):
        for make, *args in ((facts.Facts, ["a", "b"], [2, 2], [[0, 1]]), (ranks.Rank, [[1], [2, 0]]),
                            (chains.Chains, 3, TOLD), (turning.LeadDeed, [2, 0], 3),
                            (narrowing.Narrowing, CLASSES, 4), (tables.Table, 2, ANSWERS), (cases.Told, 3, CASES),
                            (givings.Giving, 2, GIVEN), (journals.Journal, 3, [2, 0], ENTRIES),
                            (forms.Form, 3, BLOCKS), (peeling.Peel, RANK, RANK, FAMILY),
                            (pairtables.PairTable, 2, CHANGES), (distances.Distance, APART),
                            (pairrules.PairRule, 1, RULE_PAIRS), (groups.GroupTable, 3, RANKED),
                            (sums.Directed, APART), (basetables.BaseTable, TWO_LOTS, 2, STAYING),
                            (begun_desk, FAMILY),
                            (rowtables.RowTable, tables.Table(1, [[[0], [0]]]), SECOND)):
            mine = copy.deepcopy(args)
            thing = make(*mine)
            wanted = copy.deepcopy(told(make(*args)))
            for part in mine:
                if isinstance(part, list):
                    if isinstance(part[0], list):
                        part[0].clear()
                    part.clear()
            self.assertEqual(told(thing), wanted)

    def test_01_ranks_do_not_change(self):
        rank = ranks.Rank([(1,), (2, 0), (3,)])
        for lot in ((3, 0), (1,), (2, 1)):
            for word in ("lead", "push", "lean", "level", "sink", "ask"):
                turning.turned(rank, word, lot)
        rank * ranks.Rank.flat(4)
        self.assertEqual([rank.cells, rank.levels, rank.worlds], [((1,), (0, 2), (3,)), (1, 0, 1, 2), 4])


if __name__ == "__main__":
    unittest.main()
