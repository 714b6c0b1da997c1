"""What is wrong with the parts of a sheet [21] [22], told by the errors of its constructor."""

from belowneeds.checks import is_between, is_integer, is_list, is_name
from belowneeds.errors import InvalidColumns, InvalidFoot, InvalidKinds, InvalidNumber, InvalidPlan, InvalidTop
from belowneeds.errors import UnknownColumn, UnknownKind, UnknownPlace
from belowneeds.formulas import Formula

LEAST_MODULUS = 2
GREATEST_MODULUS = 9
MAX_COLUMNS = 6
MAX_KINDS = 4
MAX_PLACES = 3


class Checked:
    """The parts of a sheet, of which is known that nothing is wrong with them."""

    def __init__(self, modulus, columns, top, kinds, plan):
        """As a sheet keeps them: a tuple, dicts in sequence, and a list of such dicts."""
        self.parts = (modulus, columns, top, kinds, plan)


def checked(modulus, columns, top, kinds, plan):
    """The parts of a sheet, by what its constructor was given; refuses the first that is wrong."""
    check_modulus(modulus)
    check_columns(columns)
    check_top(top, columns, modulus)
    check_kinds(kinds, columns, modulus)
    places = [{kind: 0 for kind in kinds}] if plan is None else plan
    check_plan(places, kinds)
    rows = {kind: {column: kinds[kind][column] for column in columns} for kind in sorted(kinds)}
    sequence = [{kind: leads[kind] for kind in sorted(leads)} for leads in places]
    return Checked(modulus, tuple(columns), {column: top[column] for column in columns}, rows, sequence)


def check_modulus(modulus):
    """Refuses what is no modulus."""
    if not is_between(modulus, LEAST_MODULUS, GREATEST_MODULUS):
        raise InvalidNumber(modulus)


def check_columns(columns):
    """Refuses what is no list of different names, not too many."""
    if not is_list(columns) or not 1 <= len(columns) <= MAX_COLUMNS:
        raise InvalidColumns(None)
    for position, column in enumerate(columns):
        if not is_name(column) or column in columns[:position]:
            raise InvalidColumns(position)


def has_columns(value, columns):
    """Whether this is a dict with exactly the columns as keys."""
    if not isinstance(value, dict) or len(value) != len(columns):
        return False
    return all([column in value for column in columns])


def first_without_value(row, columns, modulus):
    """The first column that has none of the values of a sheet in this dict, or None."""
    for column in columns:
        if not is_between(row[column], 0, modulus - 1):
            return column
    return None


def check_top(top, columns, modulus):
    """Refuses what is no top of these columns."""
    if not has_columns(top, columns):
        raise InvalidTop(None)
    wrong = first_without_value(top, columns, modulus)
    if wrong is not None:
        raise InvalidTop(wrong)


def check_foot(foot, sheet):
    """Refuses what is no foot of this sheet."""
    if not has_columns(foot, sheet.columns):
        raise InvalidFoot(None)
    wrong = first_without_value(foot, sheet.columns, sheet.modulus)
    if wrong is not None:
        raise InvalidFoot(wrong)


def is_formula_of(value, columns, modulus):
    """Whether this is a formula that fits."""
    return isinstance(value, Formula) and value.fits(modulus, columns)


def check_kinds(kinds, columns, modulus):
    """Refuses what are no kinds with fitting formulas, not too many."""
    if not isinstance(kinds, dict) or not 1 <= len(kinds) <= MAX_KINDS:
        raise InvalidKinds(None, None)
    if not all([is_name(kind) for kind in kinds]):
        raise InvalidKinds(None, None)
    for kind in sorted(kinds):
        if not has_columns(kinds[kind], columns):
            raise InvalidKinds(kind, None)
        for column in columns:
            if not is_formula_of(kinds[kind][column], columns, modulus):
                raise InvalidKinds(kind, column)


def check_plan(plan, kinds):
    """Refuses what is no plan for these kinds."""
    if not is_list(plan) or not 1 <= len(plan) <= MAX_PLACES:
        raise InvalidPlan(None)
    for place, leads in enumerate(plan):
        if not _are_leads(leads, kinds, len(plan)):
            raise InvalidPlan(place)
    wrong = first_unreached(plan)
    if wrong is not None:
        raise InvalidPlan(wrong)


def first_unreached(plan):
    """The first place that cannot be reached from place 0, or None."""
    reached = {0: True}
    waiting = [0]
    while waiting:
        for place in plan[waiting.pop()].values():
            if place not in reached:
                reached[place] = True
                waiting.append(place)
    if len(reached) == len(plan):
        return None
    return min([place for place in range(len(plan)) if place not in reached])


def check_kind(kind, sheet):
    """Refuses what is no kind of this sheet."""
    if not sheet.has_kind(kind):
        raise UnknownKind(kind)


def check_column(column, sheet):
    """Refuses what is no column of this sheet."""
    if not isinstance(column, str) or column not in sheet.columns:
        raise UnknownColumn(column)


def check_place(place, sheet):
    """Refuses what is no place of this sheet."""
    if not is_place(place, sheet.places):
        raise UnknownPlace(place)


def is_place(value, many):
    """Whether this is one of so many places."""
    return is_integer(value) and 0 <= value < many


def _are_leads(leads, kinds, many):
    if not isinstance(leads, dict) or not leads:
        return False
    return all([kind in kinds and is_place(leads[kind], many) for kind in leads])
