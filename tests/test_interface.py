"""The interface: where its names are defined, and which arguments they take."""

import importlib
import inspect
import unittest

INTERFACE = """
lots lot_of(lot, worlds, *, empty=True)
lots every(worlds)
lots rest_of(lot, worlds)
lots plus(one, other)
lots common(one, other)
lots minus(one, other)
lots inside(one, other)
lots meets(one, other)
lots lot_before(one, other)
lots all_lots(worlds, *, most=None)
facts Facts(names, counts, barred=())
facts Facts.world(self, **values)
facts Facts.row_of(self, world)
facts Facts.alike_classes(self, facts)
facts Facts.hangs_on(self, lot)
facts Facts.told_by(self, lot, facts)
facts Facts.shadow(self, lot, facts)
facts Facts.floor(self, lot, facts)
sentences lot_said(facts, text)
sentences plain(facts, lot)
families common_parts(family, worlds)
families union_closed(family, worlds)
families contrary_closed(family, worlds)
families is_union_closed(family, worlds)
families is_part_closed(family, worlds)
families fewest_parts(family, worlds, lot)
ranks Rank(cells)
ranks Rank.place_of(self, world)
ranks Rank.best(self, lot)
ranks Rank.behind_best(self, lot)
ranks Rank.is_before(self, one, other)
ranks Rank.is_alike(self, one, other)
ranks Rank.beginnings(self)
ranks Rank.flat(cls, worlds)
ranks Rank.strict(cls, order)
ranks Rank.of_levels(cls, numbers)
ranks Rank.two(cls, lot, worlds)
comparisons comparisons_of(comparisons, worlds)
comparisons first_broken(rank, comparisons)
comparisons keeps(rank, comparisons)
chains Chains(worlds, comparisons)
chains Chains.reaches(self, one, other)
chains Chains.strictly(self, one, other)
chains Chains.chain(self, one, other)
chains Chains.strict_chain(self, one, other)
chains Chains.alike_lots(self)
chains ring_of(worlds, comparisons)
chains is_ring(worlds, comparisons, ring)
keeping least_rank(worlds, comparisons)
keeping before_in_all(worlds, comparisons, one, other)
keeping fewest_cells(worlds, comparisons)
keeping most_cells(worlds, comparisons)
keeping some_keeping(worlds, comparisons, cells)
keeping is_spare(worlds, comparisons, place)
keeping same_keeping(worlds, one, other)
firsts first_lots(worlds, comparisons, lot)
firsts count_keeping(worlds, comparisons)
firsts keeping_ranks(worlds, comparisons)
firsts best_lots(worlds, comparisons, lot)
firsts in_some(worlds, comparisons, lot)
firsts in_all(worlds, comparisons, lot)
turning led(rank, lot)
turning pushed(rank, lot)
turning leaned(rank, lot)
turning levelled(rank, lot)
turning sunk(rank, lot)
turning turned(rank, word, lot)
turning answer_of(rank, word, lot)
turning Deed(lot, worlds)
turning Deed.on_rank(self, rank)
turning PutDeed(lot, worlds)
turning AskDeed(lot, worlds)
turning GiveDeed(lot, worlds)
turning LeadDeed(lot, worlds)
turning LeadDeed.on_rank(self, rank)
turning PushDeed(lot, worlds)
turning PushDeed.on_rank(self, rank)
turning LeanDeed(lot, worlds)
turning LeanDeed.on_rank(self, rank)
turning LevelDeed(lot, worlds)
turning LevelDeed.on_rank(self, rank)
turning SinkDeed(lot, worlds)
turning SinkDeed.on_rank(self, rank)
turning deed_named(word, lot, worlds)
products products(*ranks)
products agree(one, other)
products opposite(one, other)
products two_cells(rank)
products finer(one, other)
products led_by(rank, goal)
narrowing classes_of(classes, worlds)
narrowing met(classes, lot)
narrowing is_whole(classes, lot)
narrowing spread(classes, numbers)
narrowing coarser(classes, other)
narrowing Narrowing(classes, worlds)
narrowing Narrowing.__call__(self, rank)
ranktexts rank_text(rank)
ranktexts rank_from(text)
listing all_ranks(worlds)
listing count_ranks(worlds)
listing strict_ranks(worlds)
tables Table(worlds, answers)
tables Table.answer(self, lot)
tables Table.of_rank(cls, rank)
tables Table.of_orders(cls, orders)
tables Table.of_relation(cls, worlds, ahead)
tables Table.of_stretches(cls, starts, ends)
tables all_tables(worlds)
tables then(one, other)
wishes first_break(table, wish)
wishes has_wish(table, wish)
wishes is_kind(table, kind)
wishes kinds_of(table)
relations ahead_of(table)
relations relation_behind(table)
relations rank_behind(table)
relations strict_behind(table)
relations is_going_on(pairs)
orders fits_table(order, table)
orders orders_behind(table)
orders order_for(table, lot, world)
orders torn_lot(table)
orders is_torn(table, lot)
orders greatest_inside(table)
stretches stretches_behind(table)
"""

SIGNS = {"Rank": ["__mul__", "__eq__", "__len__", "__getitem__", "__iter__"], "Table": ["__eq__", "__len__", "__add__"]}
PROPERTIES = {"Facts": ["full", "many"], "Rank": ["held"], "Chains": ["torn"], "Table": ["held"]}
GENERATORS = ["all_lots", "all_ranks", "all_tables"]


def entries():
    for line in INTERFACE.strip().split("\n"):
        module, rest = line.split(" ", 1)
        name = rest.partition("(")[0]
        yield importlib.import_module("newsbooks." + module), name, rest[len(name):]


class InterfaceTest(unittest.TestCase):
    def test_each_name_is_defined_in_its_file_with_its_arguments(self):
        for module, name, arguments in entries():
            with self.subTest(name=name):
                owner, _, method = name.partition(".")
                found = vars(module)[owner]
                self.assertEqual(found.__module__, module.__name__)
                if method:
                    found = vars(found)[method]
                    found = found.__func__ if isinstance(found, classmethod) else found
                self.assertEqual(str(inspect.signature(found)), arguments)

    def test_signs_and_properties_are_defined_in_the_class_itself(self):
        for module, name, _ in entries():
            for sign in SIGNS.get(name, []):
                self.assertIn(sign, vars(vars(module)[name]))
            for word in PROPERTIES.get(name, []):
                self.assertIsInstance(vars(vars(module)[name])[word], property)

    def test_generators(self):
        for module, name, _ in entries():
            if "." not in name:
                self.assertEqual(inspect.isgeneratorfunction(vars(module)[name]), name in GENERATORS)


if __name__ == "__main__":
    unittest.main()
