"""One state for most of those that differ by open names, twins and the order of rows alone."""

from onlylooks.states import is_open


def kind_of(name):
    """The kind of a twin, with its colon; the empty text for an open name."""
    return name[:name.find(":") + 1]


def veiled(rows, twins):
    """The rows with texts like those of open names for the words that are twins."""
    if not twins:
        return rows
    return [
        tuple([twins.get((row[0], spot, entry), entry) for spot, entry in enumerate(row)])
        for row in rows
    ]


def places_of_names(rows):
    """A dict from each open name to the tuples (number of a row, spot) where it stands."""
    places = {}
    for number, row in enumerate(rows):
        for spot, entry in enumerate(row):
            if is_open(entry):
                places.setdefault(entry, []).append((number, spot))
    return places


def tags_of(rows, chosen):
    """For each row a text that tells for which slots it is chosen."""
    tags = ["" for _ in rows]
    for slot, at in enumerate(chosen):
        if at is not None:
            tags[at] = f"{tags[at]}{slot}."
    return tags


def sketches(rows, tags, colours):
    """For each row what tells it apart: its tag and its entries, with colours for open names."""
    return [
        (tag, *[colours.get(entry, entry) for entry in row])
        for tag, row in zip(tags, rows)
    ]


def next_colours(places, sketched):
    """Colours for open names by the rows in which they stand, as far as these are told apart."""
    seen = {
        name: tuple(sorted([(sketched[number], spot) for number, spot in places[name]]))
        for name in places
    }
    ranks = {each: f"{rank}" for rank, each in enumerate(sorted(set(list(seen.values()))))}
    return {name: ranks[seen[name]] for name in seen}


def sketched_to_the_end(rows, chosen):
    """The sketches of rows when no more open names can be told apart by them."""
    places, tags = places_of_names(rows), tags_of(rows, chosen)
    colours = {name: kind_of(name) for name in places}
    sketched, many = sketches(rows, tags, colours), 0
    while len(set(list(colours.values()))) > many:
        many = len(set(list(colours.values())))
        colours = next_colours(places, sketched)
        sketched = sketches(rows, tags, colours)
    return sketched


def words_by_kind(twins):
    """A dict from the kinds of twins to the lists of their words, ascending."""
    words = {}
    for text in sorted(set(list(twins.values()))):
        kind = kind_of(text)
        words.setdefault(kind, []).append(text[len(kind):])
    return words


def names_in_order(rows, twins):
    """What open names become when they are numbered as they first stand; twins get their words so."""
    names, words = {}, words_by_kind(twins)
    for row in rows:
        for entry in row:
            if is_open(entry) and entry not in names:
                kind = kind_of(entry)
                names[entry] = words[kind].pop(0) if kind else f"{len(names)}"
    return names


def in_order(rows, chosen, order):
    """The state with its rows in an order, told by their numbers."""
    return (
        tuple([rows[number] for number in order]),
        tuple([None if at is None else order.index(at) for at in chosen]),
    )


def ordered(rows, chosen, keys):
    """The state with its rows in the order of the keys that they have."""
    order = sorted(list(range(len(rows))), key=lambda number: (keys[number], number))
    return in_order(rows, chosen, order)


def shape(state, twins):
    """A state that differs from this one at most by open names, twins and the order of rows."""
    rows, chosen = state
    rows = veiled(rows, twins)
    rows, chosen = ordered(rows, chosen, sketched_to_the_end(rows, chosen))
    names = names_in_order(rows, twins)
    rows = [tuple([names.get(entry, entry) for entry in row]) for row in rows]
    return ordered(rows, chosen, rows)
