"""Kinds of changes: templates in which names are left open [70] to [73]."""

from onlylooks.changes import Change
from onlylooks.choosing import least_test
from onlylooks.errors import InvalidNames, InvalidTemplate, NoCase, TooMany
from onlylooks.fields import Field
from onlylooks.limits import MAX_COLUMNS, MAX_NAMES
from onlylooks.plans import depth, plan
from onlylooks.statements import Total, firsts_of
from onlylooks.values import LETTERS, are_different, is_integer, is_list, is_word


def is_parameter(value):
    """Whether any value is a parameter of a template."""
    return is_integer(value) and 0 <= value < MAX_NAMES


def is_cell(value):
    """Whether any value may stand in an entry of a template."""
    return is_parameter(value) or is_word(value)


def is_template_entry(value):
    """Whether any value is an entry of a template."""
    if not isinstance(value, tuple) or len(value) != 2 or not is_word(value[0]):
        return False
    cells = value[1]
    if not isinstance(cells, tuple) or not 1 <= len(cells) <= MAX_COLUMNS:
        return False
    return all([is_cell(cell) for cell in cells])


def parameters_in(entries):
    """The parameters that stand in entries, each once, ascending."""
    return sorted(set([cell for _, cells in entries for cell in cells if is_integer(cell)]))


def check_template(put, taken):
    """Raises InvalidTemplate if any values are not the lists of a template."""
    if not is_list(put) or not is_list(taken):
        raise InvalidTemplate(None)
    entries = [*put, *taken]
    for index, entry in enumerate(entries):
        if not is_template_entry(entry):
            raise InvalidTemplate(index)
    found = parameters_in(entries)
    if found != list(range(len(found))):
        raise InvalidTemplate(None)


def cases_of(many):
    """All cases of so many parameters, ascending."""
    cases = [()]
    for number in range(many):
        cases = [
            (*case, least) for case in cases for least in range(number + 1)
            if least == number or case[least] == least
        ]
    return cases


def with_names(entries, names):
    """Entries of a template with names in the places of the parameters."""
    return [
        (name, tuple([names[cell] if is_integer(cell) else cell for cell in cells]))
        for name, cells in entries
    ]


def is_cell_of(marks, cell):
    """Whether a cell may stand in a column with these marks, or with None, a name column."""
    return is_integer(cell) if marks is None else cell in marks


def is_entry_of(schema, entry):
    """Whether an entry of a template becomes a row of a schema."""
    name, cells = entry
    if name not in schema or len(cells) != len(schema[name].columns):
        return False
    marks = schema[name].marks
    return all([
        is_cell_of(marks.get(column), cell)
        for column, cell in zip(schema[name].columns, cells)
    ])


def names_of(change):
    """The names of a change, in the order in which they first stand in it, a tuple."""
    found = {}
    for name, row in [*change.put_rows, *change.taken_rows]:
        table = change.schema[name]
        marks = table.marks
        found.update({word: True for column, word in zip(table.columns, row) if column not in marks})
    return tuple(found)


def with_parameters(schema, entries, names):
    """Entries of a change with parameters in the places of these names."""
    made = []
    for name, row in entries:
        columns, marks = schema[name].columns, schema[name].marks
        made.append((name, tuple([
            word if column in marks else names.index(word)
            for column, word in zip(columns, row)
        ])))
    return made


def kind_of(change):
    """What is told of a change whichever its names are: its entries with parameters in their places."""
    names = names_of(change)
    return (
        tuple(with_parameters(change.schema, change.put_rows, names)),
        tuple(with_parameters(change.schema, change.taken_rows, names)),
    )


class Template:
    """A kind of change: rows to be put and taken, with parameters in the places of names."""

    def __init__(self, put, taken):
        check_template(put, taken)
        self._put_rows = tuple(put)
        self._taken_rows = tuple(taken)

    @property
    def put_rows(self):
        """The entries (table, cells) that are to come in, a tuple."""
        return self._put_rows

    @property
    def taken_rows(self):
        """The entries (table, cells) that are to go out, a tuple."""
        return self._taken_rows

    @property
    def parameters(self):
        """How many parameters there are."""
        return len(parameters_in([*self._put_rows, *self._taken_rows]))

    def cases(self):
        """A list of the cases in which all entries stay different, ascending."""
        entries = [*self._put_rows, *self._taken_rows]
        return [case for case in cases_of(self.parameters) if are_different(with_names(entries, case))]

    def case_of(self, names):
        """The case of a list of names, a word for each parameter."""
        if not is_list(names) or len(names) != self.parameters:
            raise InvalidNames(names)
        if not all([is_word(name) for name in names]):
            raise InvalidNames(names)
        case = tuple([names.index(name) for name in names])
        if case not in self.cases():
            raise NoCase(case)
        return case

    def filled(self, schema, names):
        """The Change with these names in the places of the parameters."""
        self.case_of(names)
        for index, entry in enumerate([*self._put_rows, *self._taken_rows]):
            if not is_entry_of(schema, entry):
                raise InvalidTemplate(index)
        return Change(schema, with_names(self._put_rows, names), with_names(self._taken_rows, names))

    @classmethod
    def of(cls, change):
        """The template in which the names of a change have become parameters."""
        if len(names_of(change)) > MAX_NAMES:
            raise TooMany(MAX_NAMES)
        put, taken = kind_of(change)
        return cls(put, taken)

    def __eq__(self, other):
        if not isinstance(other, Template):
            return False
        return self._put_rows == other._put_rows and self._taken_rows == other._taken_rows


def fields_of(rules, template):
    """The tuples (case, field) of the cases whose fields are not unfit."""
    fields = [
        (case, Field(rules, template.filled(rules.schema, [LETTERS[least] for least in case])))
        for case in template.cases()
    ]
    return [(case, field) for case, field in fields if field.verdict != "unfit"]


def at_with_parameters(demand):
    """The place of a demand with the least parameters of names in their places."""
    told = demand.statement
    if isinstance(told, Total):
        return ()
    marks = demand.schema[told.table].marks
    return tuple([
        word if column in marks else LETTERS.index(word)
        for column, word in zip(firsts_of(told.pairs), demand.at)
    ])


def told_of_test(field):
    """What tests tells of a field."""
    test = least_test(field)
    if test is None:
        return None
    chosen = [field.demands[number] for number in test]
    return tuple([
        (demand.rule_index, at_with_parameters(demand), demand.shift, demand.other_shift)
        for demand in chosen
    ])


def tests(rules, template):
    """A dict from the cases of a template to what there is in the least tests, or to None."""
    return {case: told_of_test(field) for case, field in fields_of(rules, template)}


def depths(rules, template):
    """A dict from the cases of a template to the depths of their plans."""
    return {case: depth(plan(field)) for case, field in fields_of(rules, template)}
