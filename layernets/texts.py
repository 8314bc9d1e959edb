"""AMOUNTS, PARTS and SHARES as texts, there and back."""

from layernets.arithmetic import ONE, ZERO, plus
from layernets.basics import is_amount, is_name, is_share, is_single_part
from layernets.errors import BadText


def amount_text(amount):
    """The text of an AMOUNT, or of a share."""
    top, bottom = amount
    return f"{top}" if bottom == 1 else f"{top}/{bottom}"


def part_text(part):
    """The text of a PART."""
    return " ".join([item if isinstance(item, str) else amount_text(item) for item in part])


def shares_text(shares):
    """The text of SHARES."""
    return "; ".join([f"{outlet} {amount_text(share)}" for outlet, share in shares])


def amount_from(text):
    """The AMOUNT with this text; raises BadText(0) if there is none."""
    amount = _amount_or_none(text)
    if amount is None:
        raise BadText(0)
    return amount


def part_from(text):
    """The PART with this text, whatever channels there are; raises BadText(0) if there is none."""
    words = text.split(" ")
    if len(words) == 5:
        words[2] = _amount_or_none(words[2])
    part = tuple(words)
    if not is_single_part(part):
        raise BadText(0)
    return part


def shares_from(text):
    """The SHARES with this text; raises BadText(piece), see the document for the piece."""
    pieces = text.split("; ")
    shares = []
    ahead = ""
    total = ZERO
    for number, piece in enumerate(pieces):
        outlet, share = _pair_or_nones(piece)
        if outlet is None or outlet <= ahead:
            raise BadText(number)
        shares.append((outlet, share))
        ahead = outlet
        total = plus(total, share)
    if total != ONE:
        raise BadText(len(pieces))
    return tuple(shares)


def _pair_or_nones(piece):
    """The outlet and its share with this text, or None for both."""
    outlet, _, word = piece.partition(" ")
    share = _amount_or_none(word)
    if not is_name(outlet) or not is_share(share) or share == ZERO:
        return None, None
    return outlet, share


def _amount_or_none(text):
    """The AMOUNT with this text, or None."""
    top, slash, bottom = text.partition("/")
    amount = (_number_or_none(top), _number_or_none(bottom) if slash else 1)
    if not is_amount(amount):
        return None
    # A whole AMOUNT is written without the / and the 1.
    if slash and amount[1] == 1:
        return None
    return amount


def _number_or_none(digits):
    """The number with these digits, or None."""
    # Python takes the digits of other scripts, too.
    if not digits.isascii() or not digits.isdigit():
        return None
    if digits.startswith("0") and digits != "0":
        return None
    return int(digits)
