"""Rules: the first one in whose row a letter lies counts, and what it does."""

from throng.errors import NoRule
from throng.forks import heap_shares
from throng.rows import row_edges, row_holds, row_written


def rule_first(rules, letter):
    for number, rule in enumerate(rules):
        if row_holds(rule[0], letter):
            return number
    return len(rules)


def rule_deed(rules, letter):
    return deed_by(rules, rule_first(rules, letter), letter)


def is_dropped(rules, number):
    return number == len(rules) or rules[number][1] == "drop"


def deed_by(rules, number, letter):
    if is_dropped(rules, number):
        return ("drop", None)
    return ("pass", row_written(letter, rules[number][2]))


def rule_shares(rules, row):
    return heap_shares([rule[0] for rule in rules], row)


def check_number(number, count):
    if number < 0 or number >= count:
        raise NoRule(f"no rule {number!r}")


def rules_without(rules, number):
    return rules[:number] + rules[number + 1:]


def rule_needed(rules, number, width):
    check_number(number, len(rules))
    others = rules_without(rules, number)
    for part, first in rule_shares(others, rules[number][0]):
        # Where a rule ahead counts, this one does nothing.
        if first >= number:
            letter = deeds_parted(part, rules, number, others, first)
            if letter is not None:
                return letter
    return None


def deeds_parted(row, one, mine, other, its):
    for letter in row_edges(row):
        if deed_by(one, mine, letter) != deed_by(other, its, letter):
            return letter
    return None


def rules_thinned(rules, width):
    kept = list(rules)
    # A rule is needed by letters that no rule ahead has, against the rules
    # behind it. From the last on these are settled, and to strike one ahead
    # takes none of those letters away: so one walk will do.
    for number in range(len(rules) - 1, -1, -1):
        if rule_needed(kept, number, width) is None:
            kept.pop(number)
    return kept
