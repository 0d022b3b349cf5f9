"""The words of layout texts, read and written: names, boxes, and the weights behind brackets."""

from boxrows.boxes import HEAVIEST, WIDEST, Box

LETTERS = "abcdefghijklmnopqrstuvwxyz"
DIGITS = "0123456789"
LONGEST_NAME = 8
BOX_SIGNS = "/-+~"
WEIGHT_SIGNS = "+~"


def is_name(text):
    """Whether a text is 1 to 8 letters from a to z."""
    return 1 <= len(text) <= LONGEST_NAME and all([sign in LETTERS for sign in text])


def is_number_text(text, top):
    """Whether a text is a decimal number from 0 to top, without leading zeros or signs."""
    # The length is tested first, as Python makes no integers of very long texts.
    if not 1 <= len(text) <= len(str(top)) or not all([sign in DIGITS for sign in text]):
        return False
    return (len(text) == 1 or text[0] != "0") and int(text) <= top


def split_at_signs(text, signs):
    """The text ahead of some signs, then for each sign the text behind it, or None without it."""
    head = text
    tails = []
    for sign in reversed(signs):
        head, found, tail = head.partition(sign)
        tails.append(tail if found else None)
    return [head] + tails[::-1]


def are_number_texts(texts, tops):
    """Whether all texts that are not left out are numbers, each up to its top."""
    return all([text is None or is_number_text(text, top) for text, top in zip(texts, tops)])


def number_or(text, left_out):
    """The number of a text, or what stands for a text that is left out."""
    return left_out if text is None else int(text)


def box_in(word):
    """The name and the box of a word for a box; None for any other word."""
    name, _, rest = word.partition(":")
    texts = split_at_signs(rest, BOX_SIGNS)
    if not is_name(name) or not are_number_texts(texts, (WIDEST, WIDEST, WIDEST, HEAVIEST, HEAVIEST)):
        return None
    wish, least, most, grow, shrink = texts
    bottom, top = number_or(least, 0), number_or(most, None)
    if top is not None and top < bottom:
        return None
    return (name, Box(int(wish), bottom, top, number_or(grow, 0), number_or(shrink, 0)))


def weights_in(text):
    """The grow and the shrink weight in what stands behind a bracket; None if it is wrong."""
    head, grow, shrink = split_at_signs(text, WEIGHT_SIGNS)
    if head or not are_number_texts([grow, shrink], (HEAVIEST, HEAVIEST)):
        return None
    return (number_or(grow, 0), number_or(shrink, 0))


def sign_text(sign, number):
    """A sign with its number; the empty text for 0."""
    return f"{sign}{number}" if number > 0 else ""


def weights_text(grow, shrink):
    """The text for two weights."""
    return sign_text("+", grow) + sign_text("~", shrink)


def box_word(name, box):
    """The word for a box with a name."""
    most = "" if box.most is None else f"-{box.most}"
    return f"{name}:{box.wish}" + sign_text("/", box.least) + most + weights_text(box.grow, box.shrink)
