"""Texts: rows, entries and permissions written as words, entries and permissions read back."""

from asnevertold.deriving import is_of_table
from asnevertold.errors import NoText
from asnevertold.names import is_name

FIGURES = "0123456789"
MOST_FIGURES = 4
ENTRY_WORDS = 8
PERMIT_WORDS = 6


def word_of(thing):
    """A cell or a moment, `-` of None."""
    return "-" if thing is None else str(thing)


def word_of_cells(row):
    """The row's cells by commas."""
    return ",".join([word_of(cell) for cell in row])


def word_of_key(key):
    """SOURCE.NUMBER, `-` of None."""
    return "-" if key is None else f"{key[0]}.{key[1]}"


def word_of_thread(thread):
    """NAME.SOURCE.NUMBER of a table, NAME(THREADS) of a name of the plan."""
    name, within = thread
    if is_of_table(thread):
        return f"{name}.{word_of_key(within)}"
    threads = ",".join([word_of_thread(one) for one in within])
    return f"{name}({threads})"


def show_rows(rows):
    """The text of a list of (thread, row)."""
    return "\n".join([f"{word_of_thread(thread)} {word_of_cells(row)}" for thread, row in rows])


def words_of_entry(entry):
    """The eight words of the entry."""
    key, table, row, since, till, known, rights, cause = entry
    cells = "!" if row is None else word_of_cells(row)
    moments = [word_of(moment) for moment in (since, till, known)]
    return [word_of_key(key), table, cells, *moments, word_of_key(rights), word_of_key(cause)]


def show_entries(entries):
    """The text of a list of entries."""
    return "\n".join([" ".join(words_of_entry(entry)) for entry in entries])


def show_permits(permits):
    """The text of a list of permissions."""
    return "\n".join([" ".join([word_of(thing) for thing in permit]) for permit in permits])


def is_number_word(word):
    """Whether the word is one to four figures, no nought ahead but in 0."""
    if not 1 <= len(word) <= MOST_FIGURES or not all([sign in FIGURES for sign in word]):
        return False
    return word == "0" or word[0] != "0"


def is_key_word(word):
    """Whether the word is SOURCE.NUMBER."""
    parts = word.split(".")
    return len(parts) == 2 and is_name(parts[0]) and is_number_word(parts[1])


def is_cell_word(word):
    """Whether the word is a cell: a person, a number, or `-`."""
    return word == "-" or is_name(word) or is_number_word(word)


def are_entry_words(words):
    """Whether the words are an entry's by their form."""
    if len(words) != ENTRY_WORDS:
        return False
    key, table, cells, since, till, known, rights, cause = words
    if not is_key_word(key) or not is_name(table):
        return False
    if cells != "!" and not all([is_cell_word(cell) for cell in cells.split(",")]):
        return False
    if not is_number_word(since) or not is_number_word(known) or not (till == "-" or is_number_word(till)):
        return False
    return all([word == "-" or is_key_word(word) for word in (rights, cause)])


def are_permit_words(words):
    """Whether the words are a permission's by their form."""
    if len(words) != PERMIT_WORDS:
        return False
    person, purpose, word, since, till, known = words
    if not is_name(person) or not is_name(purpose) or not is_name(word):
        return False
    return is_number_word(since) and is_number_word(known) and (till == "-" or is_number_word(till))


def read_cell(word):
    """The cell, or the moment, of the word."""
    if word == "-":
        return None
    return int(word) if is_number_word(word) else word


def read_key(word):
    """The key of the word."""
    if word == "-":
        return None
    source, number = word.split(".")
    return (source, int(number))


def entry_of(words):
    """The entry of its eight words."""
    key, table, cells, since, till, known, rights, cause = words
    row = None if cells == "!" else tuple([read_cell(cell) for cell in cells.split(",")])
    return (read_key(key), table, row, int(since), read_cell(till), int(known), read_key(rights), read_key(cause))


def permit_of(words):
    """The permission of its six words."""
    person, purpose, word, since, till, known = words
    return (person, purpose, word, int(since), read_cell(till), int(known))


def read_all(text, are_words, thing_of):
    """What each row of the text is by its words; NoText of the first one that is none."""
    if not isinstance(text, str):
        raise NoText(0)
    if text == "":
        return []
    told = []
    for number, row in enumerate(text.split("\n")):
        words = row.split(" ")
        if not are_words(words):
            raise NoText(number)
        told.append(thing_of(words))
    return told


def read_entries(text):
    """The entries of a text."""
    return read_all(text, are_entry_words, entry_of)


def read_permits(text):
    """The permissions of a text."""
    return read_all(text, are_permit_words, permit_of)
