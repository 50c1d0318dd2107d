"""Point 202: texts of journals, tables and news, each read back."""

import itertools
import unittest

from helpers import NO_INTEGERS, NO_ROWS, books_of, ranks_of, refused
from newsbooks.desktexts import journal_from, journal_text, news_from, news_text, table_from, table_text
from newsbooks.errors import BadDeed, BadNews, BadNumber, BadText, NewsError, TooMany
from newsbooks.journals import Journal
from newsbooks.ranks import Rank
from newsbooks.tables import Table, all_tables
from stores import some_journals

JOURNALS = [Journal(worlds, held) for worlds in (1, 2, 3) for held in books_of(worlds)]
JOURNALS = JOURNALS + some_journals(2, 5, 10, 202) + some_journals(3, 6, 30, 202) + some_journals(4, 8, 5, 202)
TWELVE = Journal(12, (3, 11), [("lead", (0, 10, 11), (10,)), ("sink", (), (10,)), ("back", (), (3, 11))])
NO_TEXTS = (None, 3, b"worlds 1 held 0", ["worlds 1 held 0"], True)


def lot_text(lot):
    return ",".join(map(str, lot)) or "-"


def spoiled(line):
    """The line with a blank more or less, a line feed or another sign more, and numbers with zeros ahead."""
    found = [line + " ", " " + line, line + "\n", "\n" + line, line + "\r", line + ";", line[:-1], line.upper(), ""]
    for place, sign in enumerate(line):
        if sign == " ":
            found = found + [line[:place] + line[place + 1:], line[:place] + " " + line[place:],
                             line[:place] + "\t" + line[place + 1:]]
        elif sign.isdigit():
            found = found + [line[:place] + "0" + line[place:], line[:place] + "x" + line[place + 1:],
                             line[:place] + "+" + line[place:], line[:place] + "\u0661" + line[place + 1:]]
        elif sign == ",":
            found = found + [line[:place] + ", " + line[place + 1:], line[:place] + ",," + line[place + 1:],
                             line[:place] + " " + line[place + 1:]]
    return [other for other in found if other != line]


class CheckedTest(unittest.TestCase):
    def fails_at(self, call, text, line):
        """The text is refused at this line; returns the cause."""
        with self.assertRaises(NewsError) as caught:
            call(text)
        found = caught.exception
        self.assertEqual([type(found), vars(found)], [BadText, {"line": line}], text)
        return found.__cause__


class JournalTextsTest(CheckedTest):
    def test_202_texts_of_journals(self):
        for journal in JOURNALS + [TWELVE]:
            lines = [f"worlds {journal.worlds} held {lot_text(journal.beginning)}"]
            lines += [f"{word} {lot_text(lot)} > {lot_text(answer)}" for word, lot, answer in journal.entries]
            self.assertEqual(journal_text(journal), "\n".join(lines))
            self.assertEqual(journal_from(journal_text(journal)), journal)
        self.assertEqual(journal_text(TWELVE), "worlds 12 held 3,11\nlead 0,10,11 > 10\nsink - > 10\nback - > 3,11")
        unlike = {journal_text(journal) for journal in JOURNALS}
        self.assertEqual(len(unlike), len({(journal.worlds, journal.beginning, journal.entries) for journal in JOURNALS}))

    def test_202_each_line_spoiled(self):
        for journal in JOURNALS[8::9] + [TWELVE]:
            lines = journal_text(journal).split("\n")
            for place, line in enumerate(lines):
                for other in spoiled(line):
                    text = "\n".join(lines[:place] + [other] + lines[place + 1:])
                    try:
                        same = journal_text(journal_from(text)) == text
                    except BadText as found:
                        self.assertIn(found.line, (place, place + 1))
                    else:
                        self.assertTrue(same)

    def test_202_first_lines(self):
        for text in NO_TEXTS + ("", "\n", "worlds", "worlds 3 held", "worlds 3 held -", "worlds 3 held 3", "worlds 3 held 0,0",
                                "worlds 3 held 1,0", "worlds 03 held 0", "worlds 0 held 0", "worlds 13 held 0", "held 0",
                                "worlds -1 held 0", "worlds 3 held 0 ", " worlds 3 held 0", "worlds  3 held 0",
                                "World 3 held 0", "worlds 3 hold 0", "worlds 3 table", "worlds three held 0",
                                "worlds 3 held 00", "worlds 3 held 0,", "worlds 3 held ,0", "worlds 3 held 0 1",
                                "worlds \u0663 held 0", "\nworlds 3 held 0"):
            self.assertIsNone(self.fails_at(journal_from, text, 0))
        self.assertEqual([journal_from("worlds 1 held 0"), journal_from("worlds 12 held 11")],
                         [Journal(1, (0,)), Journal(12, (11,))])

    def test_202_lines_that_are_no_entries(self):
        first = "worlds 3 held 0\nask 0,1 > 0\n"
        for line in ("", "ask", "ask 0,1", "ask 0,1 >", "ask 0,1 > ", "ask 0,1 > 0 ", "ask 0,1 < 0", "ask 0 1 > 0", "ask  0,1 > 0",
                     "ask 1,0 > 0", "ask 0,0 > 0", "ask 3 > 0", "ask 0 > 3", "ask 00 > 0", "ask 0,1 >0", "ask 0,1 -> 0",
                     "ask 0,1 > 1,0", "ask 0, > 0", "ask x > 0", "put 0,x > 0", "lead 0-1 > 0", "ask --- > 0"):
            self.assertIsNone(self.fails_at(journal_from, first + line, 2))
            self.assertIsNone(self.fails_at(journal_from, first + line + "\nask 0 > 0\nput", 2))

    def test_202_causes_of_entries_alone(self):
        first = "worlds 3 held 0\nask 0,1 > 0\n"
        for line in ("put 0 > 0", "Ask 0 > 0", " 0 > 0", "ask - > 0", "lead - > 0", "level 0,1,2 > 0", "sink 0,1,2 > 0",
                     "back 0 > 0", "ask 0 > -", "back - > -", "none - > -"):
            cause = self.fails_at(journal_from, first + line, 2)
            self.assertEqual([type(cause), vars(cause)], [BadDeed, {"place": 0}])
        self.assertEqual(len(journal_from(first + "level - > 0\nback - > 0,1,2")), 3)

    def test_202_sixty_lines_and_one_more(self):
        text = "worlds 2 held 0" + "\nask 0,1 > 0" * 60
        self.assertEqual(len(journal_from(text)), 60)
        refused(self, TooMany(60), journal_from, text + "\nask 0,1 > 0")
        refused(self, TooMany(60), journal_from, text + "\n")
        refused(self, TooMany(60), journal_from, "worlds 2 held 1" + "\n" * 61)
        self.fails_at(journal_from, "worlds 2 held -" + "\n" * 61, 0)
        self.fails_at(journal_from, text[:-1], 60)

    def test_202_entries_that_no_rank_gives(self):
        text = "worlds 2 held 0\nask 0,1 > 1\nlevel 0 > 1"
        self.assertEqual(journal_text(journal_from(text)), text)


class TableTextsTest(CheckedTest):
    def test_202_texts_of_tables(self):
        tables = [table for worlds in (1, 2) for table in all_tables(worlds)] + list(all_tables(3))[::9]
        tables = tables + [Table.of_rank(rank) for rank in ranks_of(4)[::9]] + [Table.of_rank(Rank.strict((5, 3, 1, 0, 2, 4)))]
        for table in tables:
            lines = [f"worlds {table.worlds} table"] + [f"{lot_text(lot)} > {lot_text(answer)}" for lot, answer in table.pairs]
            self.assertEqual(table_text(table), "\n".join(lines))
            self.assertEqual(table_from(table_text(table)), table)
        self.assertEqual(table_text(tables[2]), "worlds 2 table\n0 > 0\n1 > 1\n0,1 > 1")

    def test_202_each_line_of_a_table_spoiled(self):
        for table in list(all_tables(2)) + list(all_tables(3))[7::60]:
            lines = table_text(table).split("\n")
            for place, line in enumerate(lines):
                for other in spoiled(line):
                    text = "\n".join(lines[:place] + [other] + lines[place + 1:])
                    try:
                        same = table_text(table_from(text)) == text
                    except BadText as found:
                        self.assertIn(found.line, (place, place + 1))
                    else:
                        self.assertTrue(same)

    def test_202_lines_missing_and_too_many(self):
        text = table_text(Table.of_rank(Rank.strict((1, 0, 2))))
        lines = text.split("\n")
        for many in range(1, 8):
            self.fails_at(table_from, "\n".join(lines[:many]), many)
        self.fails_at(table_from, text + "\n", 8)
        self.fails_at(table_from, text + "\n0,1,2 > 1\n", 8)
        self.fails_at(table_from, text + "\n" * 70, 8)
        for gone in range(1, 7):
            self.fails_at(table_from, "\n".join(lines[:gone] + lines[gone + 1:]), gone)
            self.fails_at(table_from, "\n".join(lines[:gone + 1] + lines[gone:]), gone + 1)
        self.fails_at(table_from, "\n".join(lines[:2] + lines[3:1:-1] + lines[4:]), 2)

    def test_202_wrong_tables(self):
        for text in NO_TEXTS + ("", "worlds", "worlds 2", "worlds 2 table ", "worlds 0 table\n", "worlds 7 table\n0 > 0",
                                "worlds 02 table\n", "worlds 2 held 0", " worlds 1 table\n0 > 0", "worlds 1 Table\n0 > 0",
                                "world 1 table\n0 > 0"):
            self.assertIsNone(self.fails_at(table_from, text, 0))
        start = "worlds 2 table\n0 > 0\n"
        for line in ("", "1", "1 >", "1 > ", "1 > -", "1 > 0", "1 > 0,1", "0 > 0", "0,1 > 0", "01 > 1", "1 > 01", "1 < 1", "1 > 1 ",
                     "- > -", "1  > 1", "1 > 1,1", "1 > 1,", "1 > 2"):
            self.assertIsNone(self.fails_at(table_from, start + line + "\n0,1 > 1", 2))
        self.assertIsNone(self.fails_at(table_from, start + "1 > 1\n1,0 > 1", 3))
        self.assertEqual(table_from(start + "1 > 1\n0,1 > 0,1"), Table.of_rank(Rank.flat(2)))


class NewsTextsTest(CheckedTest):
    def test_202_texts_of_news(self):
        for worlds, most in ((1, 3), (2, 3), (3, 2)):
            for many in range(most + 1):
                for news in itertools.product(books_of(worlds), repeat=many):
                    text = " ; ".join(lot_text(piece) for piece in news)
                    self.assertEqual(news_text([list(reversed(piece)) for piece in news], worlds), text)
                    self.assertEqual(news_from(text, worlds), news)
        self.assertEqual([news_text([], 3), news_from("", 3)], ["", ()])
        self.assertEqual(news_text([(11, 0), (10,)], 12), "0,11 ; 10")

    def test_202_spoiled_news(self):
        for text in ("0,11 ; 10", "0", "1 ; 0,1,2 ; 2"):
            for other in spoiled(text):
                if other != "":
                    try:
                        self.assertEqual(news_text(news_from(other, 12), 12), other)
                    except BadText as found:
                        self.assertEqual(found.line, 0)
        for text in NO_TEXTS + (" ", " ; ", "-", "0 ; -", "0 ;", "0 ; ", "; 0", "0;1", "0 ;1", "0; 1", "0  ;  1", "1,0", "0,0", "3", "00",
                                "0\n", "0 ; 3", "0 ; 1 ; x", "0,", "\u0660"):
            self.fails_at(lambda value: news_from(value, 3), text, 0)

    def test_202_twenty_news_and_one_more(self):
        text = " ; ".join(["0,1"] * 20)
        self.assertEqual([len(news_from(text, 2)), news_text([(0, 1)] * 20, 2)], [20, text])
        refused(self, TooMany(20), news_from, text + " ; 0", 2)
        refused(self, TooMany(20), news_text, [(0, 1)] * 21, 2)
        refused(self, BadText(0), news_from, text + " ; 2", 2)

    def test_202_wrong_worlds_and_news(self):
        for worlds in NO_INTEGERS + (0, 13):
            refused(self, BadNumber("worlds"), news_from, None, worlds)
            refused(self, BadNumber("worlds"), news_text, None, worlds)
        for news in NO_ROWS:
            refused(self, BadNews(-1), news_text, news, 3)
        for news, place in (([()], 0), ([(0,), (3,)], 1), ([(0, 0)], 0)):
            refused(self, BadNews(place), news_text, news, 3)


if __name__ == "__main__":
    unittest.main()
