"""Charts and benches read from lines of text."""

from stubbornest.benchkinds import is_bench, is_chart
from stubbornest.errors import InvalidRow, InvalidText
from stubbornest.refusals import require

DIGITS = "0123456789"


def is_numeral(word):
    """Whether the word is digits without leading zeros."""
    if not word or not all([letter in DIGITS for letter in word]):
        return False
    return word == "0" or word[0] != "0"


def read_entry(entry):
    """The numbers of the entry; None if it is not one or more numbers, joined by commas."""
    words = entry.split(",")
    if not all([is_numeral(word) for word in words]):
        return None
    return tuple([int(word) for word in words])


def read_entries(entries, field, bare):
    """The tuple of the entries, of which the first one has this field; bare entries may stand for ()."""
    rows = []
    for at, entry in enumerate(entries):
        row = () if bare and entry == "-" else read_entry(entry)
        if row is None:
            raise InvalidText(0, field + at)
        rows.append(row)
    return tuple(rows)


def read_pair(text):
    """The pair of lowers and chains in the line, be it a chart or not."""
    parts = text.split("/")
    if len(parts) != 2:
        raise InvalidText(0, -1)
    lowers = parts[0].split(";")
    chains = parts[1].split(";")
    return read_entries(lowers, 0, True), read_entries(chains, len(lowers), False)


def read_chart(text):
    """The chart of a line."""
    require(isinstance(text, str), "text")
    pair = read_pair(text)
    if not is_chart(pair):
        raise InvalidRow(pair)
    return pair


def pair_or_none(word):
    """The pair that the word tells; None if it cannot stand as a chart."""
    try:
        pair = read_pair(word)
    except InvalidText:
        return None
    return pair


def read_charts(words):
    """The pairs that the words ahead of ":" tell."""
    charts = []
    for field, word in enumerate(words):
        if word == ":":
            return tuple(charts)
        pair = pair_or_none(word)
        if pair is None:
            raise InvalidText(0, field)
        charts.append(pair)
    raise InvalidText(0, len(words))


def read_numbers(words, field):
    """The three numbers that the words from this field on tell, to the end."""
    numbers = []
    for at, word in enumerate(words[field:]):
        if at == 3 or not is_numeral(word):
            raise InvalidText(0, field + at)
        numbers.append(int(word))
    if len(numbers) < 3:
        raise InvalidText(0, len(words))
    return tuple(numbers)


def read_bench(text):
    """The bench of a line."""
    require(isinstance(text, str), "text")
    words = text.split(" ")
    charts = read_charts(words)
    bench = (charts,) + read_numbers(words, len(charts) + 1)
    if not is_bench(bench):
        raise InvalidRow(bench)
    return bench
