"""The desk: [81] and [82]."""

import unittest

from hueward.bench import Bench
from hueward.codetexts import code_of, code_text
from hueward.compiling import compiled
from hueward.desk import Desk
from hueward.errors import HueError
from hueward.meaning import Run
from hueward.papermaking import made_paper
from hueward.progtexts import program_of, program_text
from hueward.striketexts import strikes_text
from tests.coding import CODE_30, FULL_CODE, CodeMaker, coded
from tests.compiling import HAND_MADE, made
from tests.samples import STRANGE, TEXT_16
from tests.test_leads import FIVE, MARK
from tests.test_marks import LOOP

TEXT_82 = "size 10\nmain\n  take x\n  show 1 (x + 1)"
QUESTIONS = ("row", "state", "strikes", "struck", "verdict", "sights", "fits 1", "blames 1", "code", "kept")


def desk_of(code, *lines):
    """A desk with a bench of a code, at which these lines were said."""
    desk = Desk()
    assert desk.say("load\n" + code_text(code)) == "ok"
    for line in lines:
        assert desk.say(line) == "ok", line
    return desk


def answers(desk):
    """The answers to all questions."""
    return [desk.say(question) for question in QUESTIONS]


class Example(unittest.TestCase):

    def test_the_example(self):
        desk = Desk()
        for line, answer in (
            ("read 1 2\n" + TEXT_82, "ok"), ("begin 4", "ok"), ("go 1", "ok"), ("strike 1 slot 3", "ok"), ("struck", "1"),
            ("lead 0", "error notcaught"), ("strike 2 slot 3", "error badhue"), ("undo", "ok"), ("go 5000", "ok"),
            ("row", "take 4, show 1 5, stop"), ("verdict", "same"), ("strike 0 slot -", "error ended"), ("go", "what"),
        ):
            self.assertEqual(desk.say(line), answer, line)


class Reading(unittest.TestCase):

    def test_read(self):
        desk = Desk()
        for votes in ((1,), (1, 2), (1, 2, 2), (1, 2, 3, 4, 5)):
            words = " ".join([str(need) for need in votes])
            self.assertEqual(desk.say("read " + words + "\n" + TEXT_16), "ok")
            self.assertEqual(desk.say("code"), code_text(compiled(program_of(TEXT_16), votes)))
            self.assertEqual((desk.say("state"), desk.say("row"), desk.say("strikes")), ("running 0", "-", "-"))

    def test_load(self):
        desk = Desk()
        self.assertEqual(desk.say("load\n" + code_text(CODE_30)), "ok")
        self.assertEqual(desk.say("code"), code_text(CODE_30))
        self.assertEqual(desk.say("load\n# a remark\n\n" + code_text(LOOP)), "ok")
        self.assertEqual(desk.say("code"), code_text(LOOP))

    def test_no_inputs(self):
        desk = desk_of(LOOP, "begin 5 6")
        self.assertEqual(desk.say("load\n" + code_text(LOOP)), "ok")
        desk.say("go 1")
        self.assertEqual(desk.say("row"), "take 0")
        self.assertEqual((desk.say("kept"), desk.say("undo"), desk.say("undo")), ("-", "ok", "error nothingdone"))

    def test_errors(self):
        desk = desk_of(CODE_30, "go 3", "keep a")
        before = answers(desk)
        f = ("f", (), (("give", ("number", 1)),) * 60)
        large = program_text((10, (), (f,), (("show", 0, ("number", 1)),) * 60))
        uneven = coded((0, "set", 0, 1), (0, "offer", 0), (1, "offer", 0), ("show", 0, 2), ("stop",))
        for line, answer in (
            ("read 1 2\n", "error badtext 2 1"), ("load\n", "error badcodetext 1"),
            ("read 1 2\nsize 10\nmain\n  x[0] = 1", "error badtext 3 4"),
            ("read 7 7\nsize 1", "error badtext 1 6"), ("read 0\n" + TEXT_82, "error badvotes"),
            ("read 1 1\n" + TEXT_82, "error badvotes"), ("read 2 1\n" + TEXT_82, "error badvotes"),
            ("read " + "9" * 30 + "\n" + TEXT_82, "error badvotes"), ("read 1 2 3 4 5\n" + large, "error toolarge"),
            ("read 1 2 3 4 4 4\n" + large, "what"), ("read 1 2 2 2\n" + large, "error badvotes"),
            ("load\nvotes 1 2\nsize 10\nbank\nsto", "error badcodetext 3"),
            ("load\nvotes 1 1\nsize 10", "error badcodetext 0"), ("load\nvotes 1 2\nsize 10\nbank", "error badcodetext 3"),
            ("load\n" + code_text(uneven), "error nopaper 3"), ("load\n" + code_text(FULL_CODE), "error nopaper 14"),
        ):
            self.assertEqual(desk.say(line), answer, line)
            self.assertEqual(answers(desk), before)

    def test_errors_without_a_bench(self):
        desk = Desk()
        self.assertEqual(desk.say("read 1 2\n"), "error badtext 2 1")
        self.assertEqual(desk.say("row"), "empty")

    def test_no_form(self):
        for desk in (Desk(), desk_of(CODE_30)):
            for line in (
                "read", "load", "read 1 2", "read\n" + TEXT_82, "read \n" + TEXT_82, "read 1 2 3 4 5 6\n" + TEXT_82,
                "read 01\n" + TEXT_82, "read 1  2\n" + TEXT_82, "read 1 \n" + TEXT_82, " read 1\n" + TEXT_82,
                "read -1\n" + TEXT_82, "read x\n" + TEXT_82, "read " + "9" * 31 + "\n" + TEXT_82, "Read 1\n" + TEXT_82,
                "load 1\n" + code_text(CODE_30), "load \n" + code_text(CODE_30), "\n", "\nload\n", "go 1\n", "row\n",
                "begin\n", "undo\nundo", "strike 0 slot 1\n", "keep a\nb", "reads 1\n", "load\r\nvotes 1",
            ):
                self.assertEqual(desk.say(line), "what", line)


class Lines(unittest.TestCase):

    FORMS = (
        "begin", "begin 0", "begin 1 2 3", "go 0", "go 7", "lead 0", "lead 5", "keep a", "keep abcdefgh", "keep x1",
        "back a", "undo", "row", "state", "strikes", "struck", "verdict", "sights", "fits 0", "blames 3", "code", "kept",
        "strike 0 register 1 2", "strike 0 cell 1 2", "strike 0 pointer 1", "strike 0 slot 1", "strike 0 slot -",
        "strike 0 code 1 set 1 2", "strike 0 code 1 get 1 2 3 4", "strike 0 code 1 put 1 2 3 4", "strike 0 code 1 offer 1",
        "strike 0 code 1 plus 1 2 3", "strike 0 code 1 minus 1 2 3", "strike 0 code 1 times 1 2 3",
        "strike 0 code 1 rest 1 2 3", "strike 0 code 1 less 1 2 3", "strike 0 code 1 same 1 2 3",
        "go " + "9" * 30, "strike " + "9" * 30 + " slot 1", "begin" + " 9" * 400, "strike 9 code 99 set 99 99",
    )
    NO_FORMS = (
        "begin 01", "begin x", "begin 1 ", "begin  1", "begin -1", "begin" + " 9" * 401, "begin " + "9" * 31, "go", "go 1 2",
        "go -1", "go 01", "go 1.0", "go 1 ", " go 1", "go  1", "go x", "go " + "1" * 31, "Go 1", "GO 1", "lead", "lead 0 0",
        "keep", "keep A", "keep 1a", "keep a b", "keep size", "keep main", "keep abcdefghi", "keep a_b", "back", "back 1",
        "back mark", "undo 1", "undo ", "row 1", "row ", " row", "rows", "state 0", "strikes 0", "struck 0", "verdict x",
        "sights 1", "fits", "fits -", "fits 1 1", "blames", "blames a", "code 1", "kept a", "", " ", "x", "-", "ok", "what",
        "strike", "strike 0", "strike 0 slot", "strike 0 slot x", "strike 0 slot 1 2", "strike 0 slot - -",
        "strike 0 slot 01", "strike - slot 1", "strike 0 register 1", "strike 0 register 1 -", "strike 0 register 1 2 3",
        "strike 0 register", "strike 0 cell 1", "strike 0 cell 1 2 3", "strike 0 pointer", "strike 0 pointer -",
        "strike 0 pointer 1 2", "strike 0 code", "strike 0 code 1", "strike 0 code 1 set 1", "strike 0 code 1 set 1 2 3",
        "strike 0 code 1 get 1 2 3", "strike 0 code 1 put 1 2 3 4 5", "strike 0 code 1 offer", "strike 0 code 1 offer 1 2",
        "strike 0 code 1 plus 1 2", "strike 0 code 1 plus 1 2 3 4", "strike 0 code 1 stop", "strike 0 code 1 0 set 1 2",
        "strike 0 code 1 show 1 2", "strike 0 code 1 mark", "strike 3 0 slot 1", "strike 0 code 1 set 1 -",
        "strike 0  slot 1", "strike 0 slot 1 ", "strike 0 slots 1", "strike 0 code 01 offer 1", "go 1\t", "go\t1",
        "go \u0661", "strike 0 slot \u0661",
    )

    def test_forms_without_a_bench(self):
        for line in self.FORMS:
            self.assertEqual(Desk().say(line), "empty", line)

    def test_no_forms(self):
        for desk in (Desk(), desk_of(CODE_30)):
            for line in self.NO_FORMS:
                self.assertEqual(desk.say(line), "what", line)
            for value in STRANGE + (desk, [], ["go 1"], ("row",), b"row", 5):
                self.assertEqual(desk.say(value), "what", value)

    def test_forms_with_a_bench(self):
        for line in self.FORMS:
            self.assertNotIn(desk_of(CODE_30).say(line), ("what", "empty"), line)

    def test_say_by_name(self):
        self.assertEqual(Desk().say(line="row"), "empty")


class Deeds(unittest.TestCase):

    def test_errors_by_their_words(self):
        for code, lines, line, word in (
            (CODE_30, (), "go 1000001", "badsteps"), (CODE_30, (), "go " + "9" * 30, "badsteps"),
            (CODE_30, ("go 6",), "go 999995", "badsteps"), (CODE_30, (), "begin 10000", "badinputs"),
            (CODE_30, (), "lead 6", "badmost"), (CODE_30, (), "fits 6", "badmost"), (CODE_30, (), "blames 6", "badmost"),
            (CODE_30, (), "fits 5", "notcaught"), (CODE_30, (), "blames 0", "notcaught"), (CODE_30, (), "sights", "notcaught"),
            (CODE_30, (), "back a", "notkept"), (CODE_30, (), "undo", "nothingdone"),
            (CODE_30, (), "strike 2 cell 99 99", "badhue"), (CODE_30, (), "strike 1 cell 0 99", "badplace"),
            (CODE_30, (), "strike 1 register 8 1", "badplace"), (CODE_30, (), "strike 1 code 0 offer 0", "badplace"),
            (CODE_30, (), "strike 1 register 7 10", "badnew"), (CODE_30, (), "strike 1 pointer 10000", "badnew"),
            (CODE_30, (), "strike 1 slot 10", "badnew"), (CODE_30, (), "strike 1 code 1 get 0 0 0 1", "badnew"),
            (CODE_30, (), "strike 1 code 1 offer 8", "badnew"), (CODE_30, ("go 6",), "strike 1 slot 1", "ended"),
            (CODE_30, ("strike 0 slot 1",) * 400, "strike 0 slot 1", "full"),
            (CODE_30, ("go 4", "strike 0 slot 1", "go 1"), "lead 1", "unclear"),
            (FIVE, ("strike 0 register 3 1",) * 399 + ("go 5", "strike 0 slot 1", "go 1"), "lead 1", "full"),
        ):
            desk = desk_of(code, *lines)
            before = answers(desk)
            self.assertEqual(desk.say(line), "error " + word, line)
            self.assertEqual(answers(desk), before)

    def test_answers(self):
        desk = desk_of(LOOP)
        self.assertEqual(answers(desk), ["-", "running 0", "-", "-", "same", "error notcaught", "error notcaught",
                                         "error notcaught", code_text(LOOP), "-"])
        for line in ("begin 3 14", "keep b", "go 2", "keep a1", "strike 2 cell 1 9", "strike 0 code 4 set 1 2", "go 6"):
            self.assertEqual(desk.say(line), "ok")
        self.assertEqual(answers(desk)[:5], ["take 3, show 0 3", "running 8", "2 2 cell 1 9\n2 0 code 4 set 1 2", "0 2",
                                             "same"])
        self.assertEqual(desk.say("kept"), "a1 b")
        self.assertEqual((desk.say("back b"), desk.say("state"), desk.say("kept")), ("ok", "running 0", "a1 b"))

    def test_sights(self):
        desk = desk_of(FIVE, "go 5", "strike 1 slot -", "strike 4 slot 3", "go 1")
        self.assertEqual([desk.say(line) for line in ("sights", "fits 2", "blames 2", "fits 1", "blames 1", "fits 4")],
                         ["slots 0 - 0 0 3", "1", "1 4", "0", "none", "2"])
        self.assertEqual([desk.say(line) for line in ("state", "lead 2", "state", "strikes", "struck")],
                         ["caught 6", "ok", "running 5", "5 1 slot -\n5 4 slot 3\n5 1 slot 0\n5 4 slot 0", "1 4"])
        desk = desk_of(FIVE, "go 2", "strike 0 pointer 9999", "go 1")
        self.assertEqual((desk.say("sights"), desk.say("blames 1")), ("pointers 9999 2 2 2 2", "0"))
        desk = desk_of(MARK, "strike 0 register 0 1", "go 1")
        self.assertEqual((desk.say("sights"), desk.say("blames 1"), desk.say("fits 2")), ("states", "0", "2"))
        self.assertEqual(desk.say("blames 2"), "-")

    def test_verdict(self):
        desk = desk_of(CODE_30, "go 4", "strike 0 slot 8", "strike 1 slot 8", "go 1")
        self.assertEqual(desk.say("verdict"), "wrong")
        self.assertEqual((desk.say("undo"), desk.say("undo"), desk.say("go 9"), desk.say("verdict")),
                         ("ok", "ok", "ok", "caught"))

    def test_each_strike(self):
        for seed in range(200):
            maker = CodeMaker(seed)
            code = maker.alike((1, 2))
            desk = Desk()
            if desk.say("load\n" + code_text(code)) != "ok":
                continue
            strikes = [(0,) + strike[1:] for strike in maker.strikes(code, 4, 5)]
            for strike in strikes:
                line = strikes_text(code, [strike])
                self.assertEqual(desk.say("strike" + line[1:]), "ok")
            self.assertEqual(desk.say("strikes"), strikes_text(code, strikes))


class Facts(unittest.TestCase):
    """[82]."""

    def test_deeds_that_stand(self):
        """A desk at which the deeds that stand are said answers alike."""
        for seed in range(120):
            maker = CodeMaker(seed)
            code = FIVE if seed % 3 == 0 else LOOP if seed % 3 == 1 else MARK
            desk = desk_of(code)
            stand = []
            for _ in range(30):
                line = maker.chance.choice((
                    "go 1", "go 3", "go 7", "begin 3 4", "keep a", "keep b", "back a", "back b", "lead 1", "lead 2", "undo",
                    "undo", "strike 1 slot -", "strike 0 slot 4", "strike 2 pointer 77", "strike 1 register 0 2",
                ))
                before = answers(desk)
                found = desk.say(line)
                if found != "ok":
                    self.assertTrue(found.startswith("error "))
                    self.assertEqual(answers(desk), before)
                elif line == "undo":
                    stand.pop()
                else:
                    stand.append(line)
            self.assertEqual(answers(desk_of(code, *stand)), answers(desk))

    def test_like_a_bench(self):
        bench = Bench(LOOP, made_paper(LOOP), [])
        desk = desk_of(LOOP)
        for line, deed in (("begin 3 14 5", lambda: bench.begin([3, 14, 5])), ("go 12", lambda: bench.go(12)),
                           ("strike 1 slot 2", lambda: bench.strike(1, ("slot",), 2)), ("go 30", lambda: bench.go(30))):
            self.assertEqual(desk.say(line), "ok")
            deed()
            self.assertEqual(desk.say("state"), bench.state + " " + str(bench.steps))
            self.assertEqual(desk.say("verdict"), bench.verdict())
            self.assertEqual(desk.say("strikes"), strikes_text(LOOP, bench.strikes) or "-")

    def test_rows_of_programs(self):
        done = 0
        for at, program in enumerate(HAND_MADE):
            text = program_text(program)
            run = Run(program, [3, 1, 4])
            run.go(3000)
            if run.state != "stopped" or made(program, (1, 2)) is None or len(text) > 20000:
                continue
            desk = Desk()
            self.assertEqual(desk.say("read 1 2\n" + text), "ok")
            self.assertEqual(desk.say("begin 3 1 4"), "ok")
            self.assertEqual(desk.say("go 200000"), "ok")
            self.assertEqual(desk.say("row"), ", ".join([" ".join([str(one) for one in item]) for item in run.row]))
            done += 1
        self.assertGreater(done, 15)

    def test_codes_of_texts(self):
        for code in (CODE_30, LOOP, FIVE, MARK):
            self.assertEqual(code_of(desk_of(code).say("code")), code)

    def test_no_error_leaves_a_desk(self):
        for seed in range(300):
            chance = CodeMaker(seed).chance
            desk = desk_of(CODE_30)
            for _ in range(10):
                words = ["go", "begin", "strike", "0", "1", "9", "slot", "-", "undo", "lead", "fits", "code", "set", "keep"]
                line = " ".join([chance.choice(words) for _ in range(chance.randrange(1, 6))])
                try:
                    self.assertIsInstance(desk.say(line), str)
                except HueError as wrong:
                    self.fail(f"{line} brings {wrong!r}")


if __name__ == "__main__":
    unittest.main()
