"""Pairs of layouts for the tests: trees with the same boxes, and slow ways to put rows flat."""

import math
from fractions import Fraction

from tests.trees import GREAT, HEAVY, Grower, Node, as_part, count_boxes, nodes


def box_nodes(tree):
    return [node for node in nodes(tree) if node.numbers]


def plain_words(row):
    """The words for a row; no sign stands with the number 0, but that for the greatest width."""
    found = []
    for node in row:
        if node.numbers:
            wish, least, most, grow, shrink = node.numbers
            word = f"{node.name}:{wish}" + (f"/{least}" if least else "") + ("" if most is None else f"-{most}")
            found.append(word + (f"+{grow}" if grow else "") + (f"~{shrink}" if shrink else ""))
            continue
        signs = "[]" if len(node.rows) == 1 else "{}"
        found.append((node.name or "") + signs[0])
        for at, inner in enumerate(node.rows):
            found += (["|"] if at else []) + plain_words(inner)
        found.append(signs[1] + (f"+{node.grow}" if node.grow else "") + (f"~{node.shrink}" if node.shrink else ""))
    return found


def text_of(row):
    return " ".join(plain_words(row))


def with_weights(node, grow, shrink):
    if node.numbers:
        return node._replace(numbers=node.numbers._replace(grow=grow, shrink=shrink))
    return node._replace(grow=grow, shrink=shrink)


def weights_of(node):
    return (node.numbers.grow, node.numbers.shrink) if node.numbers else (node.grow, node.shrink)


def times_weights(row, grow, shrink):
    """The row with all its weights, not those of inner rows, times a number for each side."""
    return [with_weights(node, weights_of(node)[0] * grow, weights_of(node)[1] * shrink) for node in row]


def with_box(row, name, numbers):
    """The row with other numbers for one box."""
    return [
        node._replace(numbers=numbers) if node.name == name and node.numbers
        else node._replace(rows=[with_box(inner, name, numbers) for inner in node.rows])
        for node in row
    ]


def all_numbers(row, change):
    """The row with other numbers for each box."""
    return [
        node._replace(numbers=change(node.numbers)) if node.numbers
        else node._replace(rows=[all_numbers(inner, change) for inner in node.rows])
        for node in row
    ]


def one_number_otherwise(source, tree):
    """The tree with one number of one box otherwise."""
    while True:
        node = source.choice(box_nodes(tree))
        field = source.choice(["wish", "least", "most", "grow", "shrink"])
        old = getattr(node.numbers, field)
        new = source.choice([0, 1, 2, None]) if old is None else max(0, old + source.choice([-2, -1, 1, 2]))
        numbers = node.numbers._replace(**{field: new})
        top = HEAVY if field in ("grow", "shrink") else GREAT
        if new == old or (new is None and field != "most") or (new or 0) > top:
            continue
        if numbers.most is None or numbers.least <= numbers.most:
            return with_box(tree, node.name, numbers)


def regrouped(source, boxes, depth=2):
    """The same boxes, in another sequence, in some tree; rows and stacks have no names."""
    boxes = source.sample(boxes, len(boxes))
    row = []
    while boxes:
        many = source.randint(1, len(boxes))
        part, boxes = boxes[:many], boxes[many:]
        if depth == 0 or source.random() < 0.5:
            row += part
            continue
        half = source.randint(1, many)
        rows = [part] if half == many else [part[:half], part[half:]]
        rows = [regrouped(source, inner, depth - 1) for inner in rows]
        row.append(Node(None, None, rows, source.randint(0, 3), source.randint(0, 3)))
    return row


def turned(source, row):
    """The same parts, in each row in another sequence."""
    return [
        node if node.numbers else node._replace(rows=[turned(source, inner) for inner in node.rows])
        for node in source.sample(row, len(row))
    ]


def variants(source, tree):
    """Trees with the same boxes."""
    boxes = box_nodes(tree)
    found = [one_number_otherwise(source, tree), regrouped(source, boxes), turned(source, tree)]
    if len(boxes) <= 40:
        found.append(boxes)
    if depth_of(tree) < 8:
        found.append([Node("wrap", None, [tree], source.randint(0, 3), source.randint(0, 3))])
    heaviest = max(max(weights_of(node)) for node in tree)
    if 3 * heaviest <= HEAVY:
        found.append(times_weights(tree, 3, 2))
    return found


def depth_of(row):
    return max([0] + [1 + depth_of(inner) for node in row for inner in node.rows])


def any_tree(source, depth=2, most=3, top=9, heaviest=3):
    while True:
        tree = Grower(source, depth, most, top, heaviest).tree
        if count_boxes(tree) <= 30:
            return tree


def least_integers(weights):
    """The least integers in the same proportions."""
    if not any(weights):
        return [0] * len(weights)
    scale = math.lcm(*[Fraction(weight).denominator for weight in weights])
    wholes = [int(weight * scale) for weight in weights]
    return [whole // math.gcd(*wholes) for whole in wholes]


def flat_side(weights, at, own, moves):
    """The weights of a row for one side: own ones of parts that move stand for the one at a place."""
    chosen = [Fraction(weight) if can else Fraction(0) for weight, can in zip(own, moves)]
    heavy = sum(chosen)
    inner = [weight * weights[at] / heavy if heavy else Fraction(0) for weight in chosen]
    return least_integers([Fraction(weight) for weight in weights[:at]] + inner + [Fraction(w) for w in weights[at + 1:]])


def slow_flat(row, name):
    """The tree with a row put flat, as section 8 tells; its weights may be too great."""
    for at, node in enumerate(row):
        if node.name == name:
            inner = node.rows[0]
            parts = [as_part(part) for part in inner]
            grows = flat_side([weights_of(part)[0] for part in row], at, [part.grow for part in parts],
                              [part.grow > 0 and (part.most is None or part.most > part.own) for part in parts])
            shrinks = flat_side([weights_of(part)[1] for part in row], at, [part.shrink for part in parts],
                                [part.shrink > 0 and part.least < part.own for part in parts])
            found = row[:at] + inner + row[at + 1:]
            return [with_weights(part, grow, shrink) for part, grow, shrink in zip(found, grows, shrinks)]
    return [node._replace(rows=[slow_flat(inner, name) for inner in node.rows]) for node in row]


def named_rows(tree):
    return [node.name for node in nodes(tree) if node.name and len(node.rows) == 1]
