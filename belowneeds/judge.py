"""Claims about sheets and their certificates [92]."""

from belowneeds.aboves import has_few_entries
from belowneeds.alike import alike_paper, first_unlike, is_alike_paper, is_unlike_paper
from belowneeds.checks import is_between, is_count
from belowneeds.cuts import MAX_ROWS
from belowneeds.endless import LAST_LOOKED_AT
from belowneeds.errors import InvalidClaim, TooMany
from belowneeds.fills import Fill, first_refused
from belowneeds.followed import is_followed, is_occurrence, where_followed
from belowneeds.fullness import column_delay
from belowneeds.papers import full_paper, is_full_paper, is_open_paper, open_paper
from belowneeds.sheets import Sheet

KINDS_OF_CLAIMS = ("full", "not full", "alike", "unlike", "followed")


def is_claim(value):
    """Whether this is a claim."""
    if not isinstance(value, tuple) or not value or not isinstance(value[0], str):
        return False
    word, parts = value[0], value[1:]
    if word == "full":
        return len(parts) == 3 and _are_sheet_and_column(parts[:2]) and is_count(parts[2])
    if word == "not full":
        return len(parts) == 2 and _are_sheet_and_column(parts)
    if word in ("alike", "unlike"):
        return len(parts) == 4 and _are_two_columns(parts)
    return word == "followed" and len(parts) == 4 and _is_sheet(parts[0]) and is_occurrence(*parts)


def is_certificate(claim, value):
    """Whether this is a certificate for the claim."""
    _check_claim(claim)
    word, parts = claim[0], claim[1:]
    if word == "full":
        return is_full_paper(*parts, value)
    if word == "not full":
        return is_open_paper(*parts, value)
    if word == "alike":
        return _shows_alike(parts, value)
    if word == "unlike":
        return is_unlike_paper(*parts, value)
    return _shows_followed(parts, value)


def certificate_of(claim):
    """A certificate, or None if the claim is not true."""
    _check_claim(claim)
    word, parts = claim[0], claim[1:]
    if word == "full":
        sheet, column, delay = parts
        return full_paper(sheet, column) if column_delay(sheet, column) == delay else None
    if word == "not full":
        return open_paper(*parts)
    if word == "alike":
        return _certificate_of_alike(parts)
    if word == "unlike":
        return _certificate_of_unlike(parts)
    return _certificate_of_followed(parts)


def _check_claim(claim):
    if not is_claim(claim):
        raise InvalidClaim(claim)


def _is_sheet(value):
    return isinstance(value, Sheet) and has_few_entries(value)


def _are_sheet_and_column(parts):
    sheet, column = parts
    return _is_sheet(sheet) and isinstance(column, str) and column in sheet.columns


def _are_two_columns(parts):
    """Whether these are a sheet and a column of it, and again, of two sheets with the same plan."""
    if not _are_sheet_and_column(parts[:2]) or not _are_sheet_and_column(parts[2:]):
        return False
    return parts[0].has_plan_of(parts[2])


def _shows_alike(parts, value):
    """Whether this tells for both columns that they are full, and that they are alike."""
    if not isinstance(value, tuple) or len(value) != 5:
        return False
    delay, paper, other_delay, other_paper, both = value
    if not is_count(delay) or not is_count(other_delay):
        return False
    one, column, other, other_column = parts
    if not is_full_paper(one, column, delay, paper) or not is_full_paper(other, other_column, other_delay, other_paper):
        return False
    return is_alike_paper(one, column, other, other_column, both)


def _shows_followed(parts, value):
    """Whether this is a fill and a row in which the occurrence is followed."""
    if not isinstance(value, tuple) or len(value) != 2:
        return False
    fill, row = value
    if not isinstance(fill, Fill) or first_refused(parts[0], fill) is not None:
        return False
    return is_between(row, 1, LAST_LOOKED_AT) and is_followed(*parts, fill, row)


def _certificate_of_alike(parts):
    one, column, other, other_column = parts
    delay, other_delay = column_delay(one, column), column_delay(other, other_column)
    if delay is None or other_delay is None:
        return None
    both = alike_paper(one, column, other, other_column)
    if both is None:
        return None
    return (delay, full_paper(one, column), other_delay, full_paper(other, other_column), both)


def _certificate_of_unlike(parts):
    found = first_unlike(*parts)
    if found is None:
        return None
    row, fill, _, _ = found
    _check_row(row)
    return (fill, row)


def _certificate_of_followed(parts):
    found = where_followed(*parts)
    if found is None:
        return None
    fill, row = found
    _check_row(row)
    return (fill, row)


def _check_row(row):
    if row > LAST_LOOKED_AT:
        raise TooMany("rows", MAX_ROWS)
