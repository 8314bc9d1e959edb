"""A desk: requests to a Board, line by line, and the answers to them."""

from layernets.back import least_inflow, most_inflow
from layernets.basics import is_name
from layernets.board import Board
from layernets.builds import fewest_weirs
from layernets.errors import BadLine, BadText, Known, NoNet, NoOutlet, NothingDone
from layernets.nets import Net
from layernets.texts import amount_from, amount_text, shares_text

DONE = "done"

# What stands behind each word.
KINDS = {
    "net": ("name", "net"),
    "drop": ("name",),
    "rename": ("name", "name"),
    "undo": (),
    "names": (),
    "text": ("name",),
    "flow": ("name", "amount"),
    "table": ("name",),
    "weirs": ("name",),
    "alike": ("name", "name"),
    "least": ("name", "name", "amount"),
    "most": ("name", "name", "amount"),
}


def answers(text):
    """The list of the answers to the lines of a text; raises BadLine(number) for the first that is no request."""
    requests = _requests(text)
    board = Board()
    rows = []
    for word, things in requests:
        rows.append(_answer(board, word, things))
    return rows


def _requests(text):
    """The requests of a text: pairs of a word and the list of what stands behind it; raises BadLine(number)."""
    if text == "":
        return []
    requests = []
    for number, line in enumerate(text.split("\n")):
        try:
            requests.append(_request(line))
        except BadText:
            raise BadLine(number) from None
    return requests


def _request(line):
    """The request that a line is; raises BadText if it is none."""
    # The text of a Net has blanks, too: all behind the second blank is one piece.
    pieces = line.split(" ", 2) if line.startswith("net ") else line.split(" ")
    word, rest = pieces[0], pieces[1:]
    if word not in KINDS or len(rest) != len(KINDS[word]):
        raise BadText(0)
    return word, [_thing(kind, piece) for kind, piece in zip(KINDS[word], rest)]


def _thing(kind, piece):
    """The value of this kind that is written so; raises BadText if there is none."""
    if kind == "net":
        return Net.of(piece)
    if kind == "amount":
        return amount_from(piece)
    if not is_name(piece):
        raise BadText(0)
    return piece


def _answer(board, word, things):
    """The answer to one request, which is done on the Board."""
    act = ACTS[word]
    try:
        return act(board, *things)
    except NoNet:
        return "refused NoNet"
    except Known:
        return "refused Known"
    except NoOutlet:
        return "refused NoOutlet"
    except NothingDone:
        return "refused NothingDone"


def _put(board, name, net):
    board.put(name, net)
    return DONE


def _drop(board, name):
    board.drop(name)
    return DONE


def _rename(board, name, to):
    board.rename(name, to)
    return DONE


def _undo(board):
    board.undo()
    return DONE


def _names(board):
    return " ".join(board.names) if len(board) > 0 else "-"


def _text(board, name):
    return board[name].text


def _flow(board, name, inflow):
    # A FLOW is written as SHARES are.
    return shares_text(board.flow(name, inflow))


def _table(board, name):
    rows = []
    for until, shares in board.table(name):
        ahead = "on" if until is None else f"to {amount_text(until)}"
        rows.append(f"{ahead} {shares_text(shares)}")
    return ", ".join(rows)


def _weirs(board, name):
    return f"{fewest_weirs(board.table(name))}"


def _alike(board, name, to):
    return "yes" if board.alike(name, to) else "no"


def _least(board, name, outlet, amount):
    return _amount_or_none(least_inflow(board[name], outlet, amount))


def _most(board, name, outlet, amount):
    return _amount_or_none(most_inflow(board[name], outlet, amount))


def _amount_or_none(amount):
    return "none" if amount is None else amount_text(amount)


# What is done for each word.
ACTS = {
    "net": _put,
    "drop": _drop,
    "rename": _rename,
    "undo": _undo,
    "names": _names,
    "text": _text,
    "flow": _flow,
    "table": _table,
    "weirs": _weirs,
    "alike": _alike,
    "least": _least,
    "most": _most,
}
