"""A checker of claims about functions told by halves, which trusts no part of the program that makes functions."""

from halverules.limits import LARGEST, MODULUS, RELATED
from halverules.plain import (
    adds_up_to_0, first_values, is_between, is_row_of, is_whole, plain_in, told_value, values_at_all)
from halverules.residues import is_closed
from halverules.spans import are_ascending, values_in_span


def is_same(things, certificate):
    """Whether two plain rules tell the same, by a span."""
    return is_relation((things, (1, -1)), certificate)


def is_apart(things, certificate):
    """Whether two plain rules do not tell the same at a number."""
    rules = rules_in(things[:2])
    return rules is not None and is_row_of(certificate, 0) and are_apart(rules, things[2])


def is_parting(things, certificate):
    """Whether two plain rules do not tell the same at a number, but at all lesser ones, by a span."""
    rules = rules_in(things[:2])
    end = things[2]
    if rules is None or not are_apart(rules, end) or not add_up_in_span(rules, (1, -1), certificate, end):
        return False
    # The numbers of a span ascend.
    return all([number < end for number in certificate[0][-1:]])


def is_relation(things, certificate):
    """Whether the functions of plain rules times integers add up to 0, by a span."""
    values, factors = things
    if not isinstance(values, tuple) or not 1 <= len(values) <= RELATED or not is_row_of(factors, len(values)):
        return False
    rules = rules_in(values)
    if rules is None or not all([is_whole(factor) for factor in factors]):
        return False
    return add_up_in_span(rules, factors, certificate, None)


def is_rests(things, certificate):
    """Whether the rests of what a plain rule of integers tells are all among these, by rows of rests."""
    value, modulus, rests = things
    rule = plain_in(value)
    if rule is None or not is_between(modulus, 2, MODULUS) or not isinstance(rests, tuple):
        return False
    if not are_ascending(rests) or not all([rest < modulus for rest in rests]):
        return False
    return is_closed(certificate, rule, modulus, rests)


def is_told(things, certificate):
    """Whether a plain rule tells a function with these integers as its first values."""
    values, value = things
    if not isinstance(values, tuple) or not all([is_whole(worth) for worth in values]) or not is_row_of(certificate, 0):
        return False
    rule = plain_in(value)
    if rule is None:
        return False
    for worth, lines in zip(values, first_values(rule, len(values))):
        top, bottom = told_value(rule, lines)
        if top != worth * bottom:
            return False
    return True


# What a claim is checked by, and how many things it has behind its word.
CHECKS = {"same": is_same, "apart": is_apart, "parting": is_parting, "relation": is_relation, "rests": is_rests,
          "told": is_told}
THINGS = {"same": 2, "apart": 3, "parting": 3, "relation": 2, "rests": 3, "told": 2}


def accepts(claim, certificate):
    """Whether these are a claim and its certificate, and what is told there is so."""
    if not isinstance(claim, tuple) or not claim or not isinstance(claim[0], str):
        return False
    word, *things = claim
    if word not in CHECKS or len(things) != THINGS[word]:
        return False
    check = CHECKS[word]
    return check(tuple(things), certificate)


def rules_in(values):
    """The plain rules that these are, None if one of them is none."""
    rules = [plain_in(value) for value in values]
    return None if None in rules else rules


def are_apart(rules, number):
    """Whether it is a number at which two plain rules do not tell the same."""
    if not is_between(number, 0, LARGEST):
        return False
    return not add_up_at(rules, (1, -1), [values_at_all(rule, [number])[number] for rule in rules])


def add_up_at(rules, factors, lines):
    """Whether functions times integers add up to 0 where the lines of their rules have these values."""
    return adds_up_to_0(factors, [told_value(rule, values) for rule, values in zip(rules, lines)])


def add_up_in_span(rules, factors, certificate, end):
    """Whether the certificate is a span up to the end at whose numbers functions times integers add up to 0."""
    tables = values_in_span(certificate, rules, end)
    if tables is None:
        return False
    return all([add_up_at(rules, factors, [table[number] for table in tables]) for number in certificate[0]])
