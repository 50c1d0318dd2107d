"""Points 108 and 111: forms, what they mean, and the forms behind entries."""

import itertools
import unittest

import plainreading
from helpers import NO_INTEGERS, NO_ROWS, books_of, ranks_of, refused
from newsbooks.errors import BadLot, BadNumber, BadWord, OtherWorlds
from newsbooks.forms import Form
from newsbooks.journals import Journal
from newsbooks.ranks import Rank
from newsbooks.readings import Reading
from stores import all_entries, journals_with_codes, some_journals

FORM = Form(4, [[(1, 3), True, [2, 0]], ((0, 2), False, (5, 4))])


def forms_of_journals():
    """Forms as they come behind entries, with what is held there: live and flat blocks, codes of several leans."""
    found = {}
    journals = some_journals(3, 6, 60, 108) + journals_with_codes(3, 200, 108)
    for journal in journals:
        for many, form in enumerate(Reading(journal).forms):
            now = Journal(3, journal.beginning, journal.entries[:many]).now
            found[(form.blocks, now)] = (form, now)
    return list(found.values())


FORMS = forms_of_journals()


def order_in(form, rank, x, y):
    """How x stands to y in the rank that the form means, by the words of the document."""
    places = {}
    for number, (lot, live, codes) in enumerate(form.blocks):
        for world, code in zip(lot, codes):
            places[world] = (number, rank.levels[world] if live else 0, code)
    return (places[x] > places[y]) - (places[x] < places[y])


class FormTest(unittest.TestCase):
    def test_108_forms(self):
        wanted = (((1, 3), True, (2, 0)), ((0, 2), False, (5, 4)))
        self.assertEqual([FORM.worlds, FORM.blocks], [4, wanted])
        blocks = [[[0, 1], True, [0, 0]]]
        form = Form(2, blocks)
        blocks[0][0].append(5)
        blocks[0][2].clear()
        blocks.clear()
        self.assertEqual(form.blocks, (((0, 1), True, (0, 0)),))
        self.assertTrue(form == Form(2, (((0, 1), True, (0, 0)),)))

    def test_108_equal_forms(self):
        self.assertTrue(FORM == Form(4, FORM.blocks))
        for other in (Form(5, FORM.blocks), Form(4, FORM.blocks[::-1]), Form(4, FORM.blocks[:1]), FORM.blocks, None,
                      Form(4, [((1, 3), False, (2, 0)), FORM.blocks[1]]),
                      Form(4, [((1, 3), True, (2, 1)), FORM.blocks[1]])):
            self.assertFalse(FORM == other)
            self.assertTrue(FORM != other)

    def test_108_at_start(self):
        for worlds in range(1, 13):
            form = Form.at_start(worlds)
            self.assertEqual([form.worlds, form.blocks], [worlds, ((tuple(range(worlds)), True, (0,) * worlds),)])
        for worlds in NO_INTEGERS + (0, 13, -1):
            refused(self, BadNumber("worlds"), Form.at_start, worlds)
        for rank in ranks_of(3):
            self.assertEqual(Form.at_start(3).means(rank), rank)

    def test_108_the_first_block_that_meets_a_lot(self):
        for form, _ in FORMS:
            for lot in books_of(3):
                wanted = next(k for k, block in enumerate(form.blocks) if set(block[0]) & set(lot))
                self.assertEqual(form.block_of(list(reversed(lot))), wanted)
        for lot in NO_ROWS + ((), []):
            refused(self, BadLot(-1), FORM.block_of, lot)
        for entry in NO_INTEGERS + (4, -1, 2):
            refused(self, BadLot(1), FORM.block_of, [2, entry, 0])

    def test_108_forms_of_all_kinds(self):
        flat = [block for form, _ in FORMS for block in form.blocks if not block[1]]
        live = [block for form, _ in FORMS for block in form.blocks if block[1]]
        for blocks in (flat, live):
            self.assertTrue(any(len(set(codes)) > 1 for _, _, codes in blocks))
            self.assertTrue(any(max(codes) > 2 for _, _, codes in blocks))
            self.assertTrue(any(len(codes) > 1 and len(set(codes)) == 1 for _, _, codes in blocks))

    def test_108_what_a_form_means(self):
        for form, _ in FORMS:
            for rank in ranks_of(3):
                meant = form.means(rank)
                for x, y in itertools.product(range(3), repeat=2):
                    step = meant.levels[x] - meant.levels[y]
                    self.assertEqual((step > 0) - (step < 0), order_in(form, rank, x, y))
        self.assertEqual(FORM.means(Rank.flat(4)).cells, ((3,), (1,), (2,), (0,)))
        self.assertEqual(FORM.means(Rank([(1,), (0, 2, 3)])).cells, ((1,), (3,), (2,), (0,)))
        same = Form(4, [((0, 3), False, (1, 1)), ((1, 2), True, (3, 3))])
        self.assertEqual(same.means(Rank.strict((3, 2, 1, 0))).cells, ((0, 3), (2,), (1,)))
        for worlds in (1, 3, 5):
            refused(self, OtherWorlds(worlds), FORM.means, Rank.flat(worlds))


class NextFormTest(unittest.TestCase):
    def test_111_forms_behind_entries(self):
        many = 0
        for form, now in FORMS:
            blocks = [(list(lot), live, dict(zip(lot, codes))) for lot, live, codes in form.blocks]
            for word, lot, answer in all_entries(3):
                right = word != "back" and plainreading.told_by(blocks, now, 3, (word, lot, answer))[0]
                if right:
                    many += 1
                    wanted = plainreading.as_triples(plainreading.form_behind(blocks, now, (word, lot, answer)))
                    found = form.next_form(word, list(reversed(lot)), list(reversed(answer)), list(reversed(now)))
                    self.assertEqual([found.blocks, found.worlds], [wanted, 3])
        self.assertGreater(many, 1000)

    def test_111_each_word(self):
        start = Form.at_start(4)
        whole = ((0, 1, 2, 3), True, (0, 0, 0, 0))
        front = ((1,), False, (0,))
        others = ((0, 2, 3), True, (0, 0, 0))
        self.assertEqual(start.next_form("ask", (1, 2), (1,), (0,)).blocks, (whole,))
        led = start.next_form("lead", (1, 2), (1,), (0,))
        self.assertEqual(led.blocks, (((1, 2), True, (0, 0)), ((0, 3), True, (0, 0))))
        self.assertEqual(start.next_form("push", (1, 2), (1,), (0,)).blocks, (front, others))
        leaned = start.next_form("lean", (1, 2), (1,), (0,))
        self.assertEqual(leaned.blocks, (front, ((0, 2, 3), True, (1, 0, 1))))
        again = leaned.next_form("lean", (0, 2), (2,), (1,))
        self.assertEqual(again.blocks, (((2,), False, (0,)), ((1,), False, (1,)), ((0, 3), True, (2, 3))))
        sunk = again.next_form("sink", (2, 3), (1, 2), (2,))
        self.assertEqual(sunk.blocks, (((1, 2), False, (0, 0)), ((0, 3), True, (2, 3))))
        levelled = again.next_form("level", (1, 2, 3), (0, 2), (2,))
        self.assertEqual(levelled.blocks, (((0, 2), False, (0, 0)), ((1,), False, (1,)), ((3,), True, (3,))))

    def test_111_deeds_that_turn_nothing(self):
        for word in ("level", "sink"):
            for lot, held in (((0, 2), (1,)), ((), (0, 1)), ((1, 2, 3), (0, 1, 2, 3))):
                self.assertEqual(FORM.next_form(word, lot, held, held), FORM)

    def test_111_refused_arguments(self):
        for word in ("back", "", "Lead", "put", "give", None, 3, ["lead"], ("lead",), {}):
            refused(self, BadWord(word), FORM.next_form, word, "no lot", "no answer", "no lot")
        for word in ("lead", "push", "lean", "level", "sink", "ask"):
            bounds = ((0, 1, 2, 3), [3, 2, 1, 0]) if word in ("level", "sink") else ((), [])
            for lot in NO_ROWS + bounds:
                refused(self, BadLot(-1), FORM.next_form, word, lot, "no answer", "no lot")
                refused(self, BadLot(-1), FORM.next_form, word, lot, (0, 4), (0,))
            for lot in NO_ROWS + ((), []):
                refused(self, BadLot(-1), FORM.next_form, word, (0, 1), lot, "no lot")
                refused(self, BadLot(-1), FORM.next_form, word, (0, 1), lot, (0, 4))
                refused(self, BadLot(-1), FORM.next_form, word, (0, 1), (0,), lot)
            for entry in NO_INTEGERS + (4, -1, 2):
                refused(self, BadLot(1), FORM.next_form, word, [2, entry], "no answer", "no lot")
                refused(self, BadLot(1), FORM.next_form, word, (0, 1), [2, entry], "no lot")
                refused(self, BadLot(1), FORM.next_form, word, (0, 1), (0,), [2, entry])


if __name__ == "__main__":
    unittest.main()
