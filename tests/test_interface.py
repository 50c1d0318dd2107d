"""The interface: where its names are defined, and which arguments they take."""

import importlib
import inspect
import unittest

INTERFACE = """
lots lot_of(lot, worlds, *, empty=True)
lots every(worlds)
lots rest_of(lot, worlds)
lots plus(one, other)
lots common(one, other)
lots minus(one, other)
lots inside(one, other)
lots meets(one, other)
lots lot_before(one, other)
lots all_lots(worlds, *, most=None)
facts Facts(names, counts, barred=())
facts Facts.world(self, **values)
facts Facts.row_of(self, world)
facts Facts.alike_classes(self, facts)
facts Facts.hangs_on(self, lot)
facts Facts.told_by(self, lot, facts)
facts Facts.shadow(self, lot, facts)
facts Facts.floor(self, lot, facts)
sentences lot_said(facts, text)
sentences plain(facts, lot)
families common_parts(family, worlds)
families union_closed(family, worlds)
families contrary_closed(family, worlds)
families is_union_closed(family, worlds)
families is_part_closed(family, worlds)
families fewest_parts(family, worlds, lot)
ranks Rank(cells)
ranks Rank.place_of(self, world)
ranks Rank.best(self, lot)
ranks Rank.behind_best(self, lot)
ranks Rank.is_before(self, one, other)
ranks Rank.is_alike(self, one, other)
ranks Rank.beginnings(self)
ranks Rank.flat(cls, worlds)
ranks Rank.strict(cls, order)
ranks Rank.of_levels(cls, numbers)
ranks Rank.two(cls, lot, worlds)
comparisons comparisons_of(comparisons, worlds)
comparisons first_broken(rank, comparisons)
comparisons keeps(rank, comparisons)
chains Chains(worlds, comparisons)
chains Chains.reaches(self, one, other)
chains Chains.strictly(self, one, other)
chains Chains.chain(self, one, other)
chains Chains.strict_chain(self, one, other)
chains Chains.alike_lots(self)
chains ring_of(worlds, comparisons)
chains is_ring(worlds, comparisons, ring)
keeping least_rank(worlds, comparisons)
keeping before_in_all(worlds, comparisons, one, other)
keeping fewest_cells(worlds, comparisons)
keeping most_cells(worlds, comparisons)
keeping some_keeping(worlds, comparisons, cells)
keeping is_spare(worlds, comparisons, place)
keeping same_keeping(worlds, one, other)
firsts first_lots(worlds, comparisons, lot)
firsts count_keeping(worlds, comparisons)
firsts keeping_ranks(worlds, comparisons)
firsts best_lots(worlds, comparisons, lot)
firsts in_some(worlds, comparisons, lot)
firsts in_all(worlds, comparisons, lot)
turning led(rank, lot)
turning pushed(rank, lot)
turning leaned(rank, lot)
turning levelled(rank, lot)
turning sunk(rank, lot)
turning turned(rank, word, lot)
turning answer_of(rank, word, lot)
turning Deed(lot, worlds)
turning Deed.on_rank(self, rank)
turning PutDeed(lot, worlds)
turning AskDeed(lot, worlds)
turning GiveDeed(lot, worlds)
turning LeadDeed(lot, worlds)
turning LeadDeed.on_rank(self, rank)
turning PushDeed(lot, worlds)
turning PushDeed.on_rank(self, rank)
turning LeanDeed(lot, worlds)
turning LeanDeed.on_rank(self, rank)
turning LevelDeed(lot, worlds)
turning LevelDeed.on_rank(self, rank)
turning SinkDeed(lot, worlds)
turning SinkDeed.on_rank(self, rank)
turning deed_named(word, lot, worlds)
products products(*ranks)
products agree(one, other)
products opposite(one, other)
products two_cells(rank)
products finer(one, other)
products led_by(rank, goal)
narrowing classes_of(classes, worlds)
narrowing met(classes, lot)
narrowing is_whole(classes, lot)
narrowing spread(classes, numbers)
narrowing coarser(classes, other)
narrowing Narrowing(classes, worlds)
narrowing Narrowing.__call__(self, rank)
ranktexts rank_text(rank)
ranktexts rank_from(text)
listing all_ranks(worlds)
listing count_ranks(worlds)
listing strict_ranks(worlds)
tables Table(worlds, answers)
tables Table.answer(self, lot)
tables Table.of_rank(cls, rank)
tables Table.of_orders(cls, orders)
tables Table.of_relation(cls, worlds, ahead)
tables Table.of_stretches(cls, starts, ends)
tables all_tables(worlds)
tables then(one, other)
wishes first_break(table, wish)
wishes has_wish(table, wish)
wishes is_kind(table, kind)
wishes kinds_of(table)
relations ahead_of(table)
relations relation_behind(table)
relations rank_behind(table)
relations strict_behind(table)
relations is_going_on(pairs)
orders fits_table(order, table)
orders orders_behind(table)
orders order_for(table, lot, world)
orders torn_lot(table)
orders is_torn(table, lot)
orders greatest_inside(table)
stretches stretches_behind(table)
cases Told(worlds, cases)
cases Told.given_by(self, rank)
cases Told.with_case(self, lot, answer)
cases told_of(table, family)
untold rank_told(told)
untold told_ring(told)
untold is_told_ring(told, ring)
untold can_answer(told, lot)
untold forced(told, lot)
untold told_some(told, lot)
untold told_all(told, lot)
untold count_told(told)
untold arrow_break(told)
untold union_told(told)
untold pairs_told(told)
fewasks asks_for(rank)
fewasks unseen_pair(family, worlds)
fewasks tells_apart(family, worlds)
fewasks long_ring(worlds)
manyorders fits_told(order, told)
manyorders torn_told(told)
manyorders narrowed_told(told, place, world)
manyorders orders_told(told)
manyorders why_no_orders(told)
givings Giving(worlds, answers)
givings Giving.kept(self, lot)
givings Giving.level_of(cls, rank)
givings Giving.sink_of(cls, rank)
bridges put_from(giving)
bridges give_from(table)
givewishes give_break(giving, wish)
givewishes has_give(giving, wish)
givewishes keeps_tied(table)
givewishes half_arrow(table)
sinks rank_of_sinks(giving)
sinks rank_of_levels(giving)
sinks kept_chain(giving)
sinks count_between(worlds, held)
sinks is_between(giving, table)
turnwishes turn_break(rank, lot, next_rank, wish)
turnwishes has_shape(rank, lot, next_rank, wish)
turnwishes begins_best(rank, lot, next_rank)
turnwishes is_next(rank, lot, next_rank)
nexts next_ranks(rank, lot)
nexts count_next(rank, lot)
nexts next_held(rank, lot, asked)
nexts settled(lot, asked)
nexts turns_alike(rank, lot, one, other)
rowtables RowTable(table, second)
rowtables RowTable.held_behind(self, lot, other)
rowtables RowTable.of_rank(cls, rank, word)
rowtables row_break(rowtable, word)
rowtables row_rank(rowtable, word)
"""

SIGNS = {
    "Rank": ["__mul__", "__eq__", "__len__", "__getitem__", "__iter__"], "Table": ["__eq__", "__len__", "__add__"],
    "Told": ["__eq__", "__len__", "__iter__"], "Giving": ["__eq__", "__len__"],
}
PROPERTIES = {
    "Facts": ["full", "many"], "Rank": ["held"], "Chains": ["torn"], "Table": ["held"], "Giving": ["held"],
}
TUPLES = {"wishes": ["WISHES", "KINDS"], "givewishes": ["GIVE_WISHES"], "turnwishes": ["TURN_WISHES"]}
GENERATORS = ["all_lots", "all_ranks", "all_tables", "next_ranks"]


def entries():
    for line in INTERFACE.strip().split("\n"):
        module, rest = line.split(" ", 1)
        name = rest.partition("(")[0]
        yield importlib.import_module("newsbooks." + module), name, rest[len(name):]


class InterfaceTest(unittest.TestCase):
    def test_each_name_is_defined_in_its_file_with_its_arguments(self):
        for module, name, arguments in entries():
            with self.subTest(name=name):
                owner, _, method = name.partition(".")
                found = vars(module)[owner]
                self.assertEqual(found.__module__, module.__name__)
                if method:
                    found = vars(found)[method]
                    found = found.__func__ if isinstance(found, classmethod) else found
                self.assertEqual(str(inspect.signature(found)), arguments)

    def test_signs_and_properties_are_defined_in_the_class_itself(self):
        for module, name, _ in entries():
            for sign in SIGNS.get(name, []):
                self.assertIn(sign, vars(vars(module)[name]))
            for word in PROPERTIES.get(name, []):
                self.assertIsInstance(vars(vars(module)[name])[word], property)

    def test_tuples_of_words(self):
        for module, names in TUPLES.items():
            for name in names:
                found = vars(importlib.import_module("newsbooks." + module))[name]
                self.assertIsInstance(found, tuple)
                self.assertEqual({type(word) for word in found}, {str})

    def test_generators(self):
        for module, name, _ in entries():
            if "." not in name:
                self.assertEqual(inspect.isgeneratorfunction(vars(module)[name]), name in GENERATORS)


if __name__ == "__main__":
    unittest.main()
