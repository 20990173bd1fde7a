"""Point 30: texts of runs."""

import random
import unittest

from drawn import mixed_space, tree_space
from test_sights import EMPTY, LONG, listed, read, setting, tool
from trueagain.errors import AgainError, Apart, BadLine
from trueagain.run_texts import read_run, write_run
from trueagain.steps import Run

TEXTS = ["", " ", "x", "a b", " x ", ":", " : ", "-", '"', '""', '" : "', "()", "(a b/)", "/", "a/b", "end", 'end : "x"', "read a : -", "\t", "\r",
         "\x0b", "\x0c", "\x1c", "\x85", "\u2028", "\u2029", "\\n", "\u00e4", "\ud800", "\x00", "'", "x" * 1000]
# Runs with their texts.
TOLD = [
    ([], "good", 'end : "good"'), ([], "", 'end : ""'), ([], '"', 'end : """'), ([], "-", 'end : "-"'),
    ([read("a", "x")], "g", 'read a : "x"\nend : "g"'), ([read("a")], "g", 'read a : -\nend : "g"'), ([read("a/bc/d", "")], "g", 'read a/bc/d : ""\nend : "g"'),
    ([EMPTY], "g", 'list / : ()\nend : "g"'), ([listed("", "a/", "c")], "g", 'list / : (a/ c)\nend : "g"'), ([listed("a")], "g", 'list a : -\nend : "g"'),
    ([listed("a/b", "c")], "g", 'list a/b : (c)\nend : "g"'), ([listed("a", "c/")], "g", 'list a : (c/)\nend : "g"'),
    ([setting("s", "x y")], "g", 'setting s : "x y"\nend : "g"'), ([setting("s")], "g", 'setting s : -\nend : "g"'), ([tool("7")], "g", 'tool : "7"\nend : "g"'),
    ([tool("")], "g", 'tool : ""\nend : "g"'), ([read("read", "end"), setting("read", "-"), listed("list"), listed("tool")], "tool",
                                                'read read : "end"\nsetting read : "-"\nlist list : -\nlist tool : -\nend : "tool"'),
    ([tool("a"), setting("s"), listed("", "a", "b/"), read("a"[:1], "y"), read("q")], 'x"y', 'tool : "a"\nsetting s : -\nlist / : (a b/)\nread a : "y"\n'
                                                                                     'read q : -\nend : "x"y"'),
    ([read(LONG, "\r")], "\u2028", 'read ' + LONG + ' : "\r"\nend : "\u2028"'),
]
NO_SIGHT_LINES = ["", " ", "read", "read a", "read a :", "read a : ", "read a :-", "read a: -", "read a  : -", "read  a : -", " read a : -", "read a : - ",
                  "read a :  -", "read a : --", "read a : x", "read a : \"", "read a : \"x", "read a : x\"", "read a : \"x\" ", "read a : \"x\"\r", "read a : 'x'",
                  "read a : ()", "read a : (b)", "read : -", "read  : -", "read / : -", "read A : -", "read a/ : -", "read a//b : -", "read a b : -",
                  "Read a : -", "READ a : -", "reads a : -", "list : ()", "list  : ()", "list : -", "list  : -", "list / : -", "list // : ()", "list / : \"x\"", "list a : ()",
                  "list a : \"x\"", "list a : (", "list a : )", "list a : (b", "list a : b)", "list a : ( b)", "list a : (b )", "list a : (b  c)",
                  "list a : (b,c)", "list a : (b, c)", "list a : (c b)", "list a : (b b)", "list a : (b b/)", "list a : (B)", "list a : (b//)", "list a : (/)",
                  "list a : (b) ", "list / : ( )", "list / : ((a))", "list / : [a]", "list /a : -", "list a/ : -", "list A : -", "list \"a\" : -", "setting : -",
                  "setting  : -", "setting / : -", "setting a/b : -", "setting S : -", "setting s : ()", "setting s : (a)", "setting s : None", "setting s : x",
                  "tool : -", "tool : ()", "tool : (a)", "tool : x", "tool  : \"x\"", "tool a : \"x\"", " tool : \"x\"", "tool:\"x\"", "tool :\"x\"", "tool : ", "tool",
                  "end", "end : -", "end : ()", "end : x", "end :", "end  : \"x\"", "end : \"x", "end : \"", "end x : \"x\"", "End : \"x\"", "ask a : -",
                  "file a : -", ": -", " : -", " : ", "- : -", "\t", "read\ta : -", "read a\t: -", "read a : -\t", "# read a : -"]


class TestTexts(unittest.TestCase):
    """[30]"""

    def test_both_ways(self):
        for sights, outcome, text in TOLD:
            run = Run(sights, outcome)
            self.assertEqual(write_run(run=run), text)
            self.assertEqual(read_run(text=text), run)
            self.assertIsInstance(read_run(text).sights, tuple)

    def test_texts(self):
        for text in TEXTS:
            for sights in ([read("a", text)], [setting("s", text), tool(text)], []):
                for outcome in (text, "good"):
                    run = Run(sights, outcome)
                    written = write_run(run)
                    self.assertEqual(written.count("\n"), len(sights))
                    self.assertEqual(read_run(written), run)

    def assert_bad(self, lines, index):
        with self.assertRaises(BadLine) as caught:
            read_run("\n".join(lines))
        self.assertEqual(caught.exception.index, index, lines)
        self.assertIsInstance(caught.exception, AgainError)

    def test_lines_of_no_form(self):
        for line in NO_SIGHT_LINES:
            self.assert_bad([line], 0)
            self.assert_bad([line, 'end : "x"'], 0)
            self.assert_bad(["read q : -", "tool : \"7\"", line, line, 'end : "x"'], 2)
            self.assert_bad(["read q : -", line], 1)

    def test_looks_that_stood_before(self):
        for lines in (["read a : -", "read a : -"], ["read a : -", 'read a : "x"'], ['tool : "x"', 'tool : "x"'], ["list / : ()", "list / : (a)"],
                      ["setting a : -", 'setting a : "x"'], ["list a : -", "list a : (b)"]):
            self.assert_bad(lines + ['end : "x"'], 1)
            self.assert_bad(["read q : -"] + lines + lines + ["", 'end : "x"'], 2)
            self.assert_bad(lines[:1] + ["read q : -"] + lines[1:] + ['end : "x"'], 2)
        self.assertEqual(len(read_run('read a : -\nlist a : -\nsetting a : -\nend : ""')), 3)

    def test_the_end(self):
        good, end = ["read a : -", 'tool : "7"'], 'end : "x"'
        self.assert_bad(good, 1)
        self.assert_bad(good[:1], 0)
        self.assert_bad([end] + good + [end], 0)
        self.assert_bad(good + [end, end], 2)
        self.assert_bad(good[:1] + [end] + good[1:], 1)
        self.assert_bad(good + [end, ""], 2)
        self.assert_bad([end, ""], 0)
        self.assert_bad(["", end], 0)
        self.assert_bad([""], 0)
        self.assert_bad(["", ""], 0)
        self.assert_bad(good + ["", end], 2)
        self.assert_bad(good + [""], 2)
        self.assert_bad(good + ["read b : -"], 2)
        self.assert_bad(good + ["read a : -"], 2)

    def test_apart(self):
        for lines, pair in ((["read a : \"x\"", "list a : (b)"], (0, 1)), (["tool : \"7\"", "list / : ()", "setting s : -", "read q : \"\""], (1, 3)),
                            (["list / : (a)", "read a : -", "list a : (b)"], (0, 1)), (["read a : -", "list / : ()", "list a : (b)", "list b : (c)"], (1, 2))):
            with self.assertRaises(Apart) as caught:
                read_run("\n".join(lines + ['end : "x"']))
            self.assertEqual((caught.exception.first, caught.exception.second), pair)
            self.assert_bad(lines + [""], len(lines))
            self.assert_bad(lines + ["read A : -", 'end : "x"'], len(lines))
            self.assert_bad(lines + lines[:1] + ['end : "x"'], len(lines))

    def test_drawn_runs(self):
        draw = random.Random("texts")
        for space in (tree_space(), mixed_space()):
            for at in range(200):
                run = space.step(draw, 1 + at % 6).run(space.world(draw))
                run = Run([(look, draw.choice(TEXTS) if isinstance(answer, str) else answer) for look, answer in run.sights], draw.choice(TEXTS))
                self.assertEqual(read_run(write_run(run)), run)

    def test_drawn_texts(self):
        draw = random.Random("lines")
        counts = [0, 0]
        for _ in range(6000):
            sights, outcome, text = draw.choice(TOLD[4:-1])
            signs = list(text)
            for _ in range(draw.randint(1, 2)):
                at = draw.randrange(len(signs) + 1)
                signs[at:at + draw.randint(0, 1)] = draw.choice(["", draw.choice(' :-"()/abcs\n'), draw.choice(["a", "\nend", " : ", "tool"])])
            changed = "".join(signs)
            try:
                run = read_run(changed)
            except (BadLine, Apart):
                counts[0] += 1
            else:
                # What is read is a run with this very text.
                self.assertEqual(write_run(run), changed)
                counts[1] += 1
        self.assertGreater(min(counts), 1000)

    def test_document_says(self):
        self.assertEqual(write_run(Run([(("list", ""), ("a/", "c")), (("read", "d"), None)], "good")), 'list / : (a/ c)\nread d : -\nend : "good"')


if __name__ == "__main__":
    unittest.main()
