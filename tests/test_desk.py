"""[21]: a desk."""

import random
import unittest
from fractions import Fraction

from layernets.back import least_inflow, most_inflow
from layernets.builds import fewest_weirs
from layernets.desk import answers
from layernets.errors import BadLine, FlowError
from layernets.nets import Net
from layernets.tables import table_of
from layernets.texts import amount_text, part_text, shares_text
from layernets.walks import flow
from tests.support import Case, some_nets

ONE = "weir in 3 a r; divide r 1/2 s t; join a s j; weir j 5 p k; join k t q"
TWO = "weir in 7 a q; weir a 3 b c; divide c 1/2 d e; join b d p"
# Lines that are no request.
WRONG = (
    "", " ", "-", "done", "x", "Names", "NAMES", "name", "nets", "lay x join a b c", "lift x", "limit x 0 3", "twin", "put x -", "put x weir in 3 a r", "len", "quit", "deeds",
    "names x", "undo x", "undo undo", "drop", "drop x y", "rename", "rename x", "rename x y z", "text", "text x y", "flow", "flow x", "flow x 1 2", "flow x y 1",
    "table", "table x y", "weirs", "weirs x y", "alike", "alike x", "alike x y z", "least", "least x", "least x p", "least x p 1 2", "most", "most x p", "most x 1", "most x p 1 1",
    "least x p q 1", "net", "net x", "net -", "net weir in 3 a r", "net x y -", "net x - -", "net x -;", "net x -; weir in 3 a r",
    "names ", " names", "  names", "undo ", " undo", "drop  x", "drop x ", " drop x", "rename x  y", "rename  x y", "rename x y ", "text  x", "flow x  1", "flow  x 1", "flow x 1 ", " flow x 1",
    "table x ", "weirs  x", "alike x  y", "alike x y ", "least x  p 1", "least x p  1", "most x p 1 ", "net ", "net  ", "net x ", "net  x -", "net x  -", "net x - ", " net x -",
    "net x weir in 3 a r ", "net x weir  in 3 a r", "net x weir in 3 a r;  join a r x", "net x  weir in 3 a r",
    "drop X", "drop x1", "drop abcdefghi", "drop -", "drop 1", "drop x-y", "rename X y", "rename x Y", "rename x 1", "text abcdefghi", "flow X 1", "table 1", "weirs x,", "alike x y1", "alike 1 x",
    "least X p 1", "least x P 1", "least x 1 1", "most x abcdefghi 1", "net X -", "net abcdefghi -", "net 1 -", "net - -", "net weir, -",
    "flow x y", "flow x -1", "flow x +1", "flow x 01", "flow x 00", "flow x 2/4", "flow x 1/0", "flow x 3/1", "flow x 0/1", "flow x 1/", "flow x /2", "flow x 1/2/3", "flow x 1.5", "flow x 1/02",
    "flow x -", "flow x none", "flow x 1_0", "flow x 1e3", "flow x (1,2)", "least x p y", "least x p 2/4", "most x p -1", "most x p 03", "most x p none",
    "net x weir in 3 a a", "net x weir in 3 a in", "net x weir b 3 a r", "net x weir in 2/4 a r", "net x divide in 3/2 a r", "net x join in in a", "net x join in a b", "net x weir in 3 a r; weir in 1 b c",
    "net x weir in 3 a r; weir a 1 r b", "net x weir in 3 a r; join a a b", "net x weir in 3 a", "net x weir in 3 a r b", "net x wier in 3 a r", "net x weir in 3 A r", "net x weir in 3 abcdefghi r",
    "net x weir in 3 a r;", "net x weir in 3 a r; ", "net x ; weir in 3 a r", "net x weir in 3 a r ; join a r x", "net x weir in 3 a r;join a r x", "net x weir in 3 a r, join a r x", "net x in",
    "names;", "names names", "flow x 1;", "refused NoNet", "net x --", "net x 3",
)
RIGHT = ("names", "undo", "drop x", "rename x y", "text x", "flow x 1", "table x", "weirs x", "alike x y", "least x p 1", "most x p 1", "net x -", "net x " + ONE)


def on_it(*lines):
    """The answers to these lines behind two Nets that are put on the Board."""
    rows = answers("\n".join((f"net one {ONE}", f"net two {TWO}", *lines)))
    assert rows[:2] == ["done", "done"], rows
    return rows[2:]


class ExamplesTest(Case):

    def test_answers(self):
        text = ("net one weir in 3 a r; divide r 1/2 s t; join a s j; weir j 5 p k; join k t q\nnet two weir in 7 a q; weir a 3 b c; divide c 1/2 d e; join b d p\nnames\ntable one\nflow one 10\nflow two 10\n"
                "alike one two\nweirs one\nleast one p 5\nleast one p 6\nmost one q 1/3\nleast one j 1\ntext two")
        self.told(["done", "done", "one two", "to 3 p 1, to 7 p 1/2; q 1/2, on q 1", "p 5; q 5", "e 2; p 5; q 3", "no", "2", "7", "none", "11/3", "refused NoOutlet",
                   "weir in 7 a q; weir a 3 b c; divide c 1/2 d e; join b d p"], answers, text=text)

    def test_undo(self):
        text = ("undo\nnames\nnet x -\ntable x\nflow x 2/3\nweirs x\nrename x x\nrename x y\ntext x\nundo\ntext x\ndrop x\nalike x y\nundo\nleast x in 4\nmost x in 0")
        self.told(["refused NothingDone", "-", "done", "on in 1", "in 2/3", "0", "refused Known", "done", "refused NoNet", "done", "-", "done", "refused NoNet", "done", "4", "0"], answers, text=text)

    def test_bad_lines(self):
        self.refuses(BadLine, {"number": 1}, answers, text="names\nnet x weir in 3 a a")
        self.refuses(BadLine, {"number": 1}, answers, text="names\nflow x 2/4")
        self.refuses(BadLine, {"number": 1}, answers, text="names\n")


class RequestsTest(Case):

    def test_no_lines(self):
        self.told([], answers, text="")
        answers("").append("x")
        self.same(answers(""), [])

    def test_net_and_text(self):
        for text in ("-", ONE, TWO, "weir in 0 p q", "divide in 1 p q", "divide in 0 p q", "weir in 1/3 net x; weir net 1 a b", "weir in 22/7 names undo"):
            self.told(["done", text, "x"], answers, text=f"net x {text}\ntext x\nnames")

    def test_names_that_are_words(self):
        names = ("net", "drop", "rename", "undo", "names", "text", "flow", "table", "weirs", "alike", "least", "most", "in", "weir", "join", "divide", "a", "abcdefgh", "done", "refused")
        lines = [f"net {name} weir in 3 undo net" for name in names]
        self.same(answers("\n".join([*lines, "names", *(f"flow {name} 5" for name in names), "alike names undo", "drop drop", "rename undo drop", "least net net 1", "most net undo 1"])),
                  ["done"] * 20 + [" ".join(sorted(names))] + ["net 2; undo 3"] * 20 + ["yes", "done", "done", "4", "1"])

    def test_net_known(self):
        self.same(on_it("net one -", "names", "text one"), ["refused Known", "one two", ONE])

    def test_drop(self):
        self.same(on_it("drop one", "names", "drop one", "text one", "drop two", "names", "undo", "undo", "names"),
                  ["done", "two", "refused NoNet", "refused NoNet", "done", "-", "done", "done", "one two"])

    def test_rename(self):
        self.same(on_it("rename one two", "rename one one", "rename x one", "rename x y", "rename x x", "names", "rename one z", "names", "text z", "rename two one", "names", "undo", "undo", "names"),
                  ["refused Known", "refused Known", "refused NoNet", "refused NoNet", "refused NoNet", "one two", "done", "two z", ONE, "done", "one z", "done", "done", "one two"])

    def test_undo_past_the_beginning(self):
        self.same(on_it("undo", "undo", "undo", "names", "undo", "net x -", "undo", "undo"), ["done", "done", "refused NothingDone", "-", "refused NothingDone", "done", "done", "refused NothingDone"])

    def test_what_is_refused_is_no_deed(self):
        self.same(on_it("net two -", "drop x", "rename one two", "least one j 1", "flow x 1", "undo", "names", "undo", "undo"),
                  ["refused Known", "refused NoNet", "refused Known", "refused NoOutlet", "refused NoNet", "done", "one", "done", "refused NothingDone"])

    def test_questions_are_no_deeds(self):
        self.same(on_it("names", "text one", "flow one 1", "table one", "weirs one", "alike one two", "least one p 1", "most one p 1", "undo", "names"),
                  ["one two", ONE, "p 1; q 0", "to 3 p 1, to 7 p 1/2; q 1/2, on q 1", "2", "no", "1", "1", "done", "one"])

    def test_flow(self):
        self.same(on_it("flow one 0", "flow one 7/2", "flow two 10000000000001/3", "flow x 1"),
                  ["p 0; q 0", "p 13/4; q 1/4", "e 2; p 5; q 9999999999980/3", "refused NoNet"])
        self.same(answers("net x -\nflow x 5\nflow x 0\nnet y weir in 0 p q\nflow y 1/7"), ["done", "in 5", "in 0", "done", "p 0; q 1/7"])

    def test_table(self):
        self.same(on_it("table two", "table x"), ["to 3 p 1, to 7 e 1/2; p 1/2, on q 1", "refused NoNet"])
        self.same(answers("net x weir in 0 p q\ntable x\nnet y weir in 1/3 p q\ntable y\nnet z divide in 2/3 p q\ntable z"), ["done", "on q 1", "done", "to 1/3 p 1, on q 1", "done", "on p 2/3; q 1/3"])

    def test_weirs(self):
        self.same(on_it("weirs one", "weirs two", "weirs x"), ["2", "2", "refused NoNet"])
        self.same(answers("net x weir in 3 a b; join a b c\nweirs x\nnet y weir in 3 a b\nweirs y"), ["done", "0", "done", "1"])

    def test_alike(self):
        self.same(on_it("alike one one", "alike two one", "alike one x", "alike x one", "alike x y"), ["yes", "no", "refused NoNet", "refused NoNet", "refused NoNet"])
        self.same(answers("net x weir in 3 a b; join a b c\nnet y divide in 1/2 r s; join s r c\nalike x y\nnet z weir in 0 d c\nalike z x"), ["done", "done", "yes", "done", "yes"])

    def test_least_and_most(self):
        self.same(on_it("least one p 0", "least one p 4", "least one p 5", "least one p 5000000000001/1000000000000", "least one q 1/3", "most one p 5", "most one p 4", "most one p 0", "most one q 0", "most one q 9"),
                  ["0", "5", "7", "none", "11/3", "none", "5", "0", "3", "14"])
        self.same(on_it("least x p 1", "most x p 1", "least one x 1", "most one a 0", "least one in 1", "most one in 0", "least x x 1"),
                  ["refused NoNet", "refused NoNet", "refused NoOutlet", "refused NoOutlet", "refused NoOutlet", "refused NoOutlet", "refused NoNet"])

    def test_answers_are_a_new_list(self):
        first = answers("names")
        first.append("x")
        self.same(answers("names"), ["-"])

    def test_no_board_is_kept(self):
        self.same(answers("net x -"), ["done"])
        self.same(answers("names\nundo"), ["-", "refused NothingDone"])


class BadLinesTest(Case):

    def test_right_lines(self):
        for line in RIGHT:
            self.same(len(answers(line)), 1)

    def test_wrong_lines(self):
        for line in WRONG:
            with self.subTest(line=line):
                if line:
                    self.refuses(BadLine, {"number": 0}, answers, text=line)
                self.refuses(BadLine, {"number": 1}, answers, text=f"net x {ONE}\n{line}")
                self.refuses(BadLine, {"number": 0}, answers, text=f"{line}\nnames")
                self.refuses(BadLine, {"number": 2}, answers, text=f"names\nnames\n{line}\n{line}\nnames")

    def test_line_feeds(self):
        for text, number in (("\n", 0), ("\n\n", 0), ("names\n", 1), ("names\n\n", 1), ("\nnames", 0), ("names\n\nnames", 1), ("names\nnames\n", 2), ("names\n ", 1)):
            self.refuses(BadLine, {"number": number}, answers, text=text)

    def test_the_first_one_ahead_of_all_deeds(self):
        self.refuses(BadLine, {"number": 3}, answers, text="undo\ndrop x\nnet x -\nx\nnet x -\ny")
        self.refuses(BadLine, {"number": 59}, answers, text="names\n" * 59)
        self.same(answers("\n".join(["names"] * 60)), ["-"] * 60)

    def test_bad_line_is_a_value_error(self):
        with self.assertRaises(ValueError) as caught:
            answers("x")
        self.assertIsInstance(caught.exception, FlowError)
        self.same(caught.exception.number, 0)

    def test_a_sign_changed(self):
        chance = random.Random(111)
        for _ in range(400):
            line = chance.choice(RIGHT)
            place = chance.randrange(len(line) + 1)
            other = line[:place] + chance.choice(" ;-/09aZ.,~!\"'") + line[place + chance.randint(0, 1):]
            with self.subTest(line=other):
                try:
                    rows = answers(f"names\n{other}")
                except BadLine as error:
                    self.same(error.number, 1)
                    self.assertFalse(is_request(other))
                else:
                    self.assertTrue(is_request(other))
                    self.same((len(rows), rows[0]), (2, "-"))


def is_name(word):
    return 1 <= len(word) <= 8 and all("a" <= sign <= "z" for sign in word)


def is_request(line):
    """Whether a line is a request, told another way."""
    kinds = {"undo": "", "names": "", "drop": "n", "rename": "nn", "text": "n", "flow": "na", "table": "n", "weirs": "n", "alike": "nn", "least": "nna", "most": "nna"}
    word, *rest = line.split(" ")
    if word == "net":
        if len(rest) < 2 or not is_name(rest[0]):
            return False
        try:
            return Net.of(" ".join(rest[1:])).text == " ".join(rest[1:])
        except FlowError:
            return False
    if word not in kinds or len(kinds[word]) != len(rest):
        return False
    return all(is_name(piece) if kind == "n" else is_amount(piece) for kind, piece in zip(kinds[word], rest))


def is_amount(word):
    if any(sign not in "0123456789/" for sign in word):
        return False
    try:
        return str(Fraction(word)) == word
    except (ValueError, ZeroDivisionError):
        return False


class ManyNetsTest(Case):

    def test_as_the_other_files_tell(self):
        chance = random.Random(112)
        for net in some_nets(40, 113):
            outlet, amount = chance.choice(net.outlets), chance.choice(((0, 1), (1, 3), (2, 1), (7, 2), (10 ** 12, 1)))
            word = amount_text(amount)
            least, most = least_inflow(net, outlet, amount), most_inflow(net, outlet, amount)
            layers = ", ".join(("on " if until is None else f"to {amount_text(until)} ") + shares_text(shares) for until, shares in table_of(net))
            lines = (f"net x {net.text}", "text x", f"flow x {word}", "table x", "weirs x", f"least x {outlet} {word}", f"most x {outlet} {word}", f"net y {Net(net.parts).text}", "alike x y")
            self.told(["done", "; ".join(part_text(part) for part in net.parts) or "-", "; ".join(f"{name} {amount_text(got)}" for name, got in flow(net, amount)), layers,
                       str(fewest_weirs(table_of(net))), "none" if least is None else amount_text(least), "none" if most is None else amount_text(most), "done", "yes"],
                      answers, text="\n".join(lines))


if __name__ == "__main__":
    unittest.main()
