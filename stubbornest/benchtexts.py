"""Charts and benches as lines of text."""


def entry_text(numbers):
    """The numbers, joined by commas; "-" if there are none."""
    if not numbers:
        return "-"
    return ",".join([str(number) for number in numbers])


def part_text(entries):
    """The entries, joined by semicolons."""
    return ";".join([entry_text(numbers) for numbers in entries])


def chart_line(chart):
    """The line of a chart."""
    lowers, chains = chart
    return part_text(lowers) + "/" + part_text(chains)


def bench_line(bench):
    """The line of a bench."""
    charts, low, high, top = bench
    words = [chart_line(chart) for chart in charts]
    return " ".join(words + [":", str(low), str(high), str(top)])
