"""Texts of heaps and stories, line by line, and what is told of the first line that is wrong."""

from asifcopied.changes import check_story, is_make, is_set
from asifcopied.checks import TOO_GREAT, WIDEST, check_heap, is_pointer, is_row
from asifcopied.errors import BadText
from asifcopied.heaps import is_lead

MOST_LINES = 2000
MOST_FIGURES = 18


def value_text(value):
    """The word for a value."""
    if is_lead(value):
        return "@" + str(value[1])
    return "none" if value is None else str(value)


def line_text(words):
    """A line of words, with the newline behind it."""
    return " ".join(words) + "\n"


def heap_text(heap, wide):
    """The text of a heap."""
    check_heap(heap, wide)
    lines = [line_text(["heap", str(wide), str(len(heap))])]
    for row in heap:
        lines.append(line_text(["record"] + [value_text(value) for value in row]))
    return "".join(lines)


def change_text(change):
    """The line of a change."""
    if change[0] == "make":
        return line_text(["make"] + [value_text(value) for value in change[1]])
    _, record, field, value = change
    return line_text(["set", str(record), str(field), value_text(value)])


def story_text(story, wide):
    """The text of a story."""
    check_story(story, wide)
    lines = [line_text(["story", str(wide), str(len(story))])]
    for parent, deed in story:
        lines.append(line_text(["from", str(parent), str(len(deed))]))
        lines.extend([change_text(change) for change in deed])
    return "".join(lines)


def number_in(word):
    """The number that a word tells, None if it tells none."""
    figures = word[1:] if word.startswith("-") else word
    if not 1 <= len(figures) <= MOST_FIGURES or not all(["0" <= sign <= "9" for sign in figures]):
        return None
    if figures.startswith("0") and word != "0":
        return None
    return int(word)


def value_in(word):
    """The pair of whether a word tells a value, and of that value."""
    if word == "none":
        return True, None
    number = number_in(word[1:] if word.startswith("@") else word)
    if word.startswith("@"):
        value = ("to", number)
        return is_pointer(value), value
    return number is not None, number


def values_in(words):
    """The tuple of the values that words tell, None if one tells none."""
    told = [value_in(word) for word in words]
    if not all([is_told for is_told, _ in told]):
        return None
    return tuple([value for _, value in told])


class Reader:
    """The lines of a text, read one behind another."""

    def __init__(self, text):
        if not isinstance(text, str):
            raise BadText(0)
        # What is behind the last newline is no line, even if nothing is wrong with it.
        pieces = text.split("\n")
        self.lines = pieces[:-1]
        self.rest = pieces[-1]
        self.at = 0

    def words(self, first, many):
        """The list of so many words behind the first one of the next line."""
        self.at += 1
        if self.at > len(self.lines):
            raise BadText(self.at)
        words = self.lines[self.at - 1].split(" ")
        if words[0] != first or len(words) != many + 1:
            raise BadText(self.at)
        return words[1:]

    def first_word(self):
        """The first word of the next line, which stays the next one."""
        return self.lines[self.at].split(" ")[0] if self.at < len(self.lines) else None

    def numbers(self, first, most):
        """The list of the numbers of a line: most has for each one how great it is at the most."""
        numbers = [number_in(word) for word in self.words(first, len(most))]
        for number, highest in zip(numbers, most):
            if number is None or not 0 <= number <= highest:
                raise BadText(self.at)
        return numbers

    def opening(self, first, least):
        """The pair of wide and of how many parts there are, from the first line."""
        wide, many = self.numbers(first, [WIDEST, MOST_LINES])
        if wide < 1 or many < least:
            raise BadText(self.at)
        return wide, many

    def end(self):
        """Refuse a line more, or what has no newline behind it."""
        if self.at < len(self.lines) or self.rest:
            raise BadText(self.at + 1)

    def change(self, wide, many):
        """The change that the next line tells, in a heap of so many records."""
        if self.first_word() == "make":
            change = ("make", values_in(self.words("make", wide)))
            is_done = is_make(change, wide, many)
        else:
            record, field, word = self.words("set", 3)
            is_told, value = value_in(word)
            change = ("set", number_in(record), number_in(field), value)
            is_done = is_told and is_set(change, wide, many)
        if not is_done:
            raise BadText(self.at)
        return change


def read_heap(text):
    """The pair of the heap whose text this is, and of wide."""
    reader = Reader(text)
    wide, many = reader.opening("heap", 1)
    rows = []
    for _ in range(many):
        row = values_in(reader.words("record", wide))
        if not is_row(row, wide, many):
            raise BadText(reader.at)
        rows.append(row)
    reader.end()
    return tuple(rows), wide


def read_story(text):
    """The pair of the story whose text this is, and of wide."""
    reader = Reader(text)
    wide, pairs = reader.opening("story", 0)
    story = []
    counts = [1]
    for at in range(pairs):
        parent, changes = reader.numbers("from", [at, TOO_GREAT - 1])
        many = counts[parent]
        deed = []
        for _ in range(changes):
            change = reader.change(wide, many)
            many += 1 if change[0] == "make" else 0
            deed.append(change)
        counts.append(many)
        story.append((parent, deed))
    reader.end()
    return story, wide
