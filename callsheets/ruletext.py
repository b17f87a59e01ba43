"""The texts of rules and conditions (points 402 and 403)."""

from callsheets.conditions import SIGNS, is_joining_word, tree_of, words_of
from callsheets.errors import RuleError
from callsheets.rules import ALL, FIGURES, MINORS
from callsheets.words import fits, is_long, is_number, lines_of, number_named, text_of

RULE_LIMIT = 12


def parse_rules(film, text):
    """Return the rules of a text; RuleError for the first line that has an error."""
    if is_long(text):
        raise RuleError("long", 0)
    rules = []
    for line, words in enumerate(lines_of(text)):
        if words:
            fault = _take_rule(film, rules, words)
            if fault is not None:
                raise RuleError(fault, line)
    return tuple(rules)


def _take_rule(film, rules, words):
    """Return the code of the error of a line, or add its rule to the list and return None."""
    condition = _condition_of(words[4:])
    if not fits(words[:4], "rule NAME WHO :") or condition is None:
        return "form"
    if number_named(rules, words[1]) is not None:
        return "twice"
    if len(rules) >= RULE_LIMIT:
        return "many"
    who = _number_of_who(film, words[2])
    if who is None:
        return "unknown"
    rules.append((words[1], who, condition))
    return None


def _number_of_who(film, word):
    if word == "all":
        return ALL
    if word == "minors":
        return MINORS
    return number_named(film[1], word)


def _condition_of(words):
    """Return the condition that words tell, or None if they tell none."""
    tokens = []
    at = 0
    while at < len(words):
        if is_joining_word(words[at]):
            tokens.append(words[at])
            at = at + 1
        elif _is_atom(words[at:at + 3]):
            tokens.append(("is", words[at], words[at + 1], int(words[at + 2])))
            at = at + 3
        else:
            return None
    return tree_of(tokens)


def _is_atom(words):
    return len(words) == 3 and words[0] in FIGURES and words[1] in SIGNS and is_number(words[2])


def print_rules(film, rules):
    """Return a text of rules; parsing it gives the rules back."""
    lines = []
    for name, who, condition in rules:
        lines.append(["rule", name, _word_of_who(film, who), ":"] + words_of(condition, _words_of_atom))
    return text_of(lines)


def _word_of_who(film, who):
    if who == ALL:
        return "all"
    if who == MINORS:
        return "minors"
    return film[1][who][0]


def print_condition(condition):
    """Return the words of a condition with one space between two."""
    return " ".join(words_of(condition, _words_of_atom))


def _words_of_atom(atom):
    _, figure, sign, number = atom
    return [figure, sign, str(number)]
