"""The grammar of conditions, whatever their atoms are (point 402).

A token of a condition is an atom, which is a tuple, or one of the words that
make greater conditions of atoms.
"""

SIGNS = ("<", "<=", ">", ">=", "=", "!=")
# The words for two conditions, from the one that binds least to the one that binds most.
JOINTS = ("then", "or", "and")
OTHER_WORDS = ("not", "(", ")")
ATOM_LIMIT = 20
NOT_LIMIT = 20
DEPTH_LIMIT = 10


def compare(left, sign, right):
    """Return whether two numbers are as a sign tells."""
    if sign == "<":
        return left < right
    if sign == "<=":
        return left <= right
    if sign == ">":
        return left > right
    if sign == ">=":
        return left >= right
    if sign == "=":
        return left == right
    return left != right


def is_true(tree, is_true_atom):
    """Return whether a condition is true, for a function that tells it of an atom."""
    word = tree[0]
    if word == "not":
        return not is_true(tree[1], is_true_atom)
    if word == "and":
        return is_true(tree[1], is_true_atom) and is_true(tree[2], is_true_atom)
    if word == "or":
        return is_true(tree[1], is_true_atom) or is_true(tree[2], is_true_atom)
    if word == "then":
        return not is_true(tree[1], is_true_atom) or is_true(tree[2], is_true_atom)
    return is_true_atom(tree)


def is_joining_word(word):
    """Return whether a word is a token of its own, and no part of an atom."""
    return word in JOINTS or word in OTHER_WORDS


def tree_of(tokens):
    """Return the condition that tokens make, or None if they have not its form."""
    if not _is_within_limits(tokens):
        return None
    return _tree_of(tokens)


def _is_within_limits(tokens):
    # Looked at ahead of the tree, so that no text leads into a deep recursion.
    atoms = len([token for token in tokens if isinstance(token, tuple)])
    joints = len([token for token in tokens if token in JOINTS])
    if atoms > ATOM_LIMIT or joints != atoms - 1:
        return False
    return tokens.count("not") <= NOT_LIMIT and _greatest_depth(tokens) <= DEPTH_LIMIT


def _greatest_depth(tokens):
    depth = 0
    greatest = 0
    for token in tokens:
        if token == "(":
            depth = depth + 1
        elif token == ")":
            depth = depth - 1
        greatest = max(greatest, depth)
    return greatest


def _tree_of(tokens):
    at = _place_of_joint(tokens)
    if at is not None:
        first = _tree_of(tokens[:at])
        second = _tree_of(tokens[at + 1:])
        return None if first is None or second is None else (tokens[at], first, second)
    if tokens[:1] == ["not"]:
        inner = _tree_of(tokens[1:])
        return None if inner is None else ("not", inner)
    if tokens[:1] == ["("] and tokens[-1] == ")":
        return _tree_of(tokens[1:-1])
    if len(tokens) == 1 and isinstance(tokens[0], tuple):
        return tokens[0]
    return None


def _place_of_joint(tokens):
    """Return where the joint stands that binds least and is in no parentheses, or None."""
    for joint in JOINTS:
        places = [at for at, token in enumerate(tokens) if token == joint and _is_outside(tokens, at)]
        if places:
            # The tree of a row of the same joints branches at the first one
            # if they associate to the right, otherwise at the last one.
            return places[0] if joint == "then" else places[-1]
    return None


def _is_outside(tokens, at):
    """Return whether no parentheses are around the token at a place."""
    return tokens[:at].count("(") == tokens[:at].count(")")


def words_of(tree, words_of_atom):
    """Return the words of a condition, for a function that returns those of an atom."""
    word = tree[0]
    if word == "not":
        return ["not"] + _words_within(tree[1], words_of_atom, _strength("not"))
    if word in JOINTS:
        # On the side to which it does not associate, a joint must bind more.
        first_least = _strength(word) + (1 if word == "then" else 0)
        second_least = _strength(word) + (0 if word == "then" else 1)
        first = _words_within(tree[1], words_of_atom, first_least)
        return first + [word] + _words_within(tree[2], words_of_atom, second_least)
    return words_of_atom(tree)


def _words_within(tree, words_of_atom, least):
    """Return the words of a condition, in parentheses if it binds less than is needed."""
    words = words_of(tree, words_of_atom)
    return words if _strength(tree[0]) >= least else ["("] + words + [")"]


def _strength(word):
    """Return how strongly a word binds; atoms do it like not."""
    return JOINTS.index(word) if word in JOINTS else len(JOINTS)
