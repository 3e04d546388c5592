"""Words in mark columns that no rule and no fact tells apart: a search need not tell them apart either."""


def mark_spots(problem):
    """The tuples (table, spot, words) of all mark columns."""
    return [
        (name, spot, marks)
        for name, layout in problem.layouts.items()
        for spot, marks in enumerate(layout, 1)
        if marks is not None
    ]


def groups_of(problem):
    """A dict from the tuples (table, spot) of mark columns to numbers, equal where pairs join them."""
    groups = {(name, spot): number for number, (name, spot, _) in enumerate(mark_spots(problem))}
    for ask in problem.asks:
        for first, second in ask.joins:
            if (ask.home, first) in groups:
                old, new = groups[ask.home, first], groups[ask.target, second]
                groups = {place: new if groups[place] == old else groups[place] for place in groups}
    return groups


def mentions(problem):
    """The tuples (table, spot, words) for words that are told beside others of their column."""
    told = []
    for ask in problem.asks:
        told.extend([(ask.target, spot, words) for spot, words in ask.checks])
        told.extend([(ask.home, spot, words) for spot, words in ask.home_checks])
    for row in [*problem.first_rows, *[row for _, row in problem.gone]]:
        told.extend([(row[0], spot, (row[spot],)) for spot in range(1, len(row))])
    return told


def twins_of(problem):
    """A dict from (table, spot, word) to a text, for words that may be exchanged for others.

    The text is written like an open name: a number for the words that may be exchanged for one
    another, then a colon, then the word.
    """
    columns, kinds, texts = mark_spots(problem), {}, {}
    if not columns:
        return texts
    groups, told = groups_of(problem), mentions(problem)
    for name, spot, marks in columns:
        group = groups[name, spot]
        lists = [words for table, at, words in told if groups.get((table, at)) == group]
        sides = {word: tuple([word in words for words in lists]) for word in marks}
        for word in marks:
            if len([each for each in marks if sides[each] == sides[word]]) > 1:
                kind = kinds.setdefault((group, sides[word]), len(kinds))
                texts[name, spot, word] = f"{kind}:{word}"
    return texts
