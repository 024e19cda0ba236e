"""Houses, whose rooms have doors (cost, row), and the chains they are under a rule or a mix."""

from chancehouse.errors import NoRule
from chancehouse.exact import NOUGHT, ONE, less, times, total
from chancehouse.rows import is_row, row_of


def are_doors(doors, many):
    if len(doors) == 0:
        return False
    return all([not less(cost, NOUGHT) and is_row(row, many) for cost, row in doors])


def is_house(house):
    return len(house) > 0 and all([are_doors(doors, len(house)) for doors in house])


def is_rule(house, rule):
    if len(rule) != len(house):
        return False
    return all([0 <= door < len(doors) for door, doors in zip(rule, house)])


def are_shares(doors, shares):
    if len(shares) != len(doors) or any([less(share, NOUGHT) for share in shares]):
        return False
    return total(shares) == ONE


def is_mix(house, mix):
    if len(mix) != len(house):
        return False
    return all([are_shares(doors, shares) for doors, shares in zip(house, mix)])


def doors_under(house, rule):
    if not is_rule(house, rule):
        raise NoRule("this is no rule of the house")
    return [doors[door] for door, doors in zip(rule, house)]


def chain_under(house, rule):
    return [list(row) for cost, row in doors_under(house, rule)]


def costs_under(house, rule):
    return [cost for cost, row in doors_under(house, rule)]


def refuse_no_mix(house, mix):
    if not is_mix(house, mix):
        raise NoRule("this is no mix of the house")


def mixed_row(doors, shares, many):
    pairs = []
    for door, share in zip(doors, shares):
        for room, chance in door[1]:
            pairs.append((room, times(share, chance)))
    return row_of(pairs, many)


def mixed_cost(doors, shares):
    return total([times(share, door[0]) for door, share in zip(doors, shares)])


def chain_mixed(house, mix):
    refuse_no_mix(house, mix)
    return [mixed_row(doors, shares, len(house)) for doors, shares in zip(house, mix)]


def costs_mixed(house, mix):
    refuse_no_mix(house, mix)
    return [mixed_cost(doors, shares) for doors, shares in zip(house, mix)]
