"""Journals, tables and news as texts."""

from newsbooks.checks import MOST_WORLDS, check_worlds
from newsbooks.errors import BadDeed, BadText, TooMany
from newsbooks.folds import MOST_NEWS, news_of
from newsbooks.journals import MOST_ENTRIES, Journal, entries_of
from newsbooks.lots import books_inside, every, inside
from newsbooks.tables import MOST_TABLED, Table

BETWEEN_NEWS = " ; "


def lot_text(lot):
    """Return the text of an ascending lot."""
    return ",".join([str(world) for world in lot]) if lot else "-"


def lot_from(text, worlds):
    """Return the lot with this text, or None."""
    if text == "-":
        return ()
    numbers = {str(world): world for world in range(worlds)}
    pieces = text.split(",")
    if not all([piece in numbers for piece in pieces]):
        return None
    lot = tuple([numbers[piece] for piece in pieces])
    return lot if lot == tuple(sorted(set(lot))) else None


def number_from(text, most):
    """Return the number from 1 to most with this text, or None."""
    numbers = {str(number): number for number in range(1, most + 1)}
    return numbers.get(text)


def lines_of(text):
    """Return the list of the lines of a text."""
    if not isinstance(text, str):
        raise BadText(0)
    return text.split("\n")


def answered_text(lot, answer):
    """Return the text of a lot and its answer."""
    return f"{lot_text(lot)} > {lot_text(answer)}"


def journal_text(journal):
    """Return the text of the journal."""
    lines = [f"worlds {journal.worlds} held {lot_text(journal.beginning)}"]
    lines = lines + [f"{word} {answered_text(lot, answer)}" for word, lot, answer in journal.entries]
    return "\n".join(lines)


def beginning_from(line):
    """Return the number of worlds and the lot of the beginning that the first line of a journal tells."""
    words = line.split(" ")
    if len(words) != 4 or words[0] != "worlds" or words[2] != "held":
        raise BadText(0)
    worlds = number_from(words[1], MOST_WORLDS)
    held = None if worlds is None else lot_from(words[3], worlds)
    if not held:
        raise BadText(0)
    return (worlds, held)


def entry_from(line, worlds, place):
    """Return the entry that the line tells; place is the number of the line."""
    words = line.split(" ")
    if len(words) != 4 or words[2] != ">":
        raise BadText(place)
    lot = lot_from(words[1], worlds)
    answer = lot_from(words[3], worlds)
    if lot is None or answer is None:
        raise BadText(place)
    try:
        return entries_of([(words[0], lot, answer)], worlds)[0]
    except BadDeed as fault:
        raise BadText(place) from fault


def journal_from(text):
    """Return the journal with this text."""
    lines = lines_of(text)
    worlds, held = beginning_from(lines[0])
    if len(lines) - 1 > MOST_ENTRIES:
        raise TooMany(MOST_ENTRIES)
    return Journal(worlds, held, [entry_from(line, worlds, at) for at, line in enumerate(lines) if at > 0])


def table_text(table):
    """Return the text of the table."""
    return "\n".join([f"worlds {table.worlds} table"] + [answered_text(lot, answer) for lot, answer in table.pairs])


def table_worlds_from(line):
    """Return the number of worlds that the first line of a table tells."""
    words = line.split(" ")
    if len(words) != 3 or words[0] != "worlds" or words[2] != "table":
        raise BadText(0)
    worlds = number_from(words[1], MOST_TABLED)
    if worlds is None:
        raise BadText(0)
    return worlds


def answer_from(line, lot, worlds, place):
    """Return the answer that the line tells for the lot; place is the number of the line."""
    words = line.split(" ")
    if len(words) != 3 or words[0] != lot_text(lot) or words[1] != ">":
        raise BadText(place)
    answer = lot_from(words[2], worlds)
    if not answer or not inside(answer, lot):
        raise BadText(place)
    return answer


def table_from(text):
    """Return the table with this text."""
    lines = lines_of(text)
    worlds = table_worlds_from(lines[0])
    lots = books_inside(every(worlds))
    pairs = [(lot, answer_from(line, lot, worlds, at + 1)) for at, (lot, line) in enumerate(zip(lots, lines[1:]))]
    if len(lines) - 1 != len(lots):
        raise BadText(len(pairs) + 1)
    return Table(worlds, pairs)


def news_text(news, worlds):
    """Return the text of the row of news."""
    return BETWEEN_NEWS.join([lot_text(piece) for piece in news_of(news, worlds)])


def news_from(text, worlds):
    """Return the row of news with this text."""
    check_worlds(worlds)
    if not isinstance(text, str):
        raise BadText(0)
    news = tuple([lot_from(piece, worlds) for piece in text.split(BETWEEN_NEWS)]) if text else ()
    if not all([piece for piece in news]):
        raise BadText(0)
    if len(news) > MOST_NEWS:
        raise TooMany(MOST_NEWS)
    return news
