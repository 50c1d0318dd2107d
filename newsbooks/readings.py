"""Journals read entry by entry, and the ranks that give them."""

from newsbooks.chains import are_closing, ring_of
from newsbooks.checks import is_integer, is_row
from newsbooks.firsts import count_keeping
from newsbooks.forms import Form
from newsbooks.keeping import least_rank
from newsbooks.lots import every
from newsbooks.tellings import best_comparisons, entry_comparisons, entry_holds


def read_back(form, now, answer):
    """Return what reading "back" gives, as read_entry does; form and now are those to which it leads back."""
    return ([], form, now) if answer == now else None


def read_entry(form, now, entry):
    """Return the comparisons of an entry but "back", the form and what is held behind it; None if its check falls."""
    word, lot, answer = entry
    if not entry_holds(form, now, word, lot, answer):
        return None
    told = entry_comparisons(form, now, word, lot, answer)
    return (told, form.next_form(word, lot, answer, now), now if word == "ask" else answer)


class Reading:
    """A journal read: its comparisons with their sources, and the forms.

    At each number k up to that of the entries read, forms and nows have the form behind k entries and what is held
    there.
    """

    def __init__(self, journal):
        form = Form.at_start(journal.worlds)
        comparisons = best_comparisons(form, every(journal.worlds), journal.beginning)
        sources = [-1] * len(comparisons)
        forms = [form]
        nows = [journal.beginning]
        standing = []
        self.fallen = None
        for place, entry in enumerate(journal.entries):
            word, _, answer = entry
            if word == "back":
                ended = standing.pop() if standing else place
                found = read_back(forms[ended], nows[ended], answer)
            else:
                found = read_entry(forms[place], nows[place], entry)
            if found is None:
                self.fallen = place
                break
            if word not in ("ask", "back"):
                standing.append(place)
            told, form, now = found
            comparisons = comparisons + told
            sources = sources + [place] * len(told)
            forms.append(form)
            nows.append(now)
        self.journal = journal
        self.comparisons = tuple(comparisons)
        self.sources = tuple(sources)
        self.forms = tuple(forms)
        self.nows = tuple(nows)

    @property
    def form(self):
        """The form behind the last entry read."""
        return self.forms[-1]


def may_have_given(journal):
    """Return the least rank that gives the journal, or None."""
    reading = Reading(journal)
    return least_rank(journal.worlds, reading.comparisons) if reading.fallen is None else None


def count_given(journal):
    """Return the number of ranks that give the journal."""
    reading = Reading(journal)
    return count_keeping(journal.worlds, reading.comparisons) if reading.fallen is None else 0


def steps_read(reading):
    """Return the list of the comparisons of the journal, each behind the place of its entry."""
    return [(source,) + entry for source, entry in zip(reading.sources, reading.comparisons)]


def why_none(journal):
    """Return a reason why no rank gives the journal, or None if some rank does."""
    reading = Reading(journal)
    if reading.fallen is not None:
        return ("check", reading.fallen)
    ring = ring_of(journal.worlds, reading.comparisons)
    if ring is None:
        return None
    steps = steps_read(reading)
    return ("ring", tuple([steps[place] for place in ring]))


def is_why(journal, why):
    """Return whether this is a reason why no rank gives the journal."""
    reading = Reading(journal)
    if not is_row(why) or len(why) != 2:
        return False
    kind, told = why
    if not isinstance(kind, str) or kind not in ("check", "ring"):
        return False
    if kind == "check":
        return is_integer(told) and told == reading.fallen
    return are_closing(told, steps_read(reading))
