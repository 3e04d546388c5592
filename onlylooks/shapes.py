"""One state for most of those that differ by open names, twins and the order of rows alone."""

from onlylooks.states import is_open


def kind_of(name):
    """The kind of a twin, with its colon; the empty text for an open name."""
    return name[:name.find(":") + 1]


def veiled(rows, twins):
    """The rows with texts like those of open names for the words that are twins."""
    if not twins:
        return rows
    return [
        tuple([twins.get((row[0], spot, entry), entry) for spot, entry in enumerate(row)])
        for row in rows
    ]


def places_of_names(rows):
    """A dict from each open name to the tuples (number of a row, spot) where it stands."""
    places = {}
    for number, row in enumerate(rows):
        for spot, entry in enumerate(row):
            if is_open(entry):
                if entry in places:
                    places[entry].append((number, spot))
                else:
                    places[entry] = [(number, spot)]
    return places


def tags_of(rows, chosen):
    """For each row a text that tells for which slots it is chosen."""
    tags = ["" for _ in rows]
    for slot, at in enumerate(chosen):
        if at is not None:
            tags[at] = f"{tags[at]}{slot}."
    return tags


def with_colours(sketched, rows, colours, numbers):
    """The sketches with these colours for open names, in the rows with these numbers."""
    new = list(sketched)
    for number in numbers:
        tag = sketched[number][0]
        new[number] = (tag, *[colours.get(entry, entry) for entry in rows[number]])
    return new


def sights_of(places, sketched):
    """For each open name the tuples (sketch, spot) of where it stands, ascending."""
    sights = {}
    for name, those in places.items():
        seen = [(sketched[number], spot) for number, spot in those]
        sights[name] = tuple(seen if len(seen) == 1 else sorted(seen))
    return sights


def sketched_to_the_end(rows, chosen, places):
    """For each row what tells it apart, with colours for open names, when these tell no more apart."""
    numbers = list({number: True for those in places.values() for number, _ in those})
    colours = {name: kind_of(name) for name in places}
    sketched = [(tag, *row) for tag, row in zip(tags_of(rows, chosen), rows)]
    sketched = with_colours(sketched, rows, colours, numbers)
    many, more = 0, len(set(list(colours.values())))
    while more > many:
        sights = sights_of(places, sketched)
        ranks = {each: f"{rank}" for rank, each in enumerate(sorted(set(list(sights.values()))))}
        colours = {name: ranks[sights[name]] for name in sights}
        sketched = with_colours(sketched, rows, colours, numbers)
        many, more = more, len(ranks)
    return sketched


def words_by_kind(twins):
    """A dict from the kinds of twins to the lists of their words, ascending."""
    words = {}
    for text in sorted(set(list(twins.values()))):
        kind = kind_of(text)
        words.setdefault(kind, []).append(text[len(kind):])
    return words


def names_in_order(rows, twins):
    """What open names become when they are numbered as they first stand; twins get their words so."""
    names, words = {}, words_by_kind(twins) if twins else {}
    for row in rows:
        for entry in row:
            if is_open(entry) and entry not in names:
                kind = kind_of(entry) if twins else ""
                names[entry] = words[kind].pop(0) if kind else f"{len(names)}"
    return names


def ordered(rows, chosen, keys):
    """The state with its rows in the order of the keys that they have."""
    # Rows with equal keys stay in their order.
    order = sorted(list(range(len(rows))), key=lambda number: keys[number])
    return (
        tuple([rows[number] for number in order]),
        tuple([None if at is None else order.index(at) for at in chosen]),
    )


def shape(state, twins):
    """A state that differs from this one at most by open names, twins and the order of rows."""
    rows, chosen = state
    rows = veiled(rows, twins)
    places = places_of_names(rows)
    if len(places) > 1:
        rows, chosen = ordered(rows, chosen, sketched_to_the_end(rows, chosen, places))
    if places:
        names = names_in_order(rows, twins)
        rows = [tuple([names.get(entry, entry) for entry in row]) for row in rows]
    if not chosen:
        return tuple(sorted(rows)), chosen
    return ordered(rows, chosen, rows)
