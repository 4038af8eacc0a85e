"""[24]: programs."""

from stemkeep.jobs import Hall, is_program
from stemkeep.errors import NoProgram
from tests.support import Case
from tests.test_terms import EXPRESSIONS, NO_NAMES, ONE, PLACES, at, short, var, within

DEEDS = [
    ("set", PLACES[0], ONE), ("set", PLACES[1], ONE), ("set", PLACES[2], ONE), ("kill", PLACES[0]), ("kill", PLACES[1]),
    ("kill", PLACES[2]), ("write", ONE), ("if", ONE), ("else",), ("for", "i", ONE, ONE, ONE), ("do", "a", []),
    ("do", "b", [ONE, ONE]), ("quit",), ("new", ["x"]), ("new", ["x", "y"]), ("lock", PLACES[1]), ("free", PLACES[1]),
    ("free_all",), ("start",), ("keep",), ("undo",), ("halt",),
]


def program_of(*deeds):
    """Tell a program with such deeds in a row of its label b, and a label a beside it."""
    return [("a", [], []), ("b", ["p", "q"], [[], list(deeds)])]


class TestIsProgram(Case):

    def no_program(self, thing):
        self.assertIs(is_program(thing), False)
        self.refused(NoProgram, Hall, thing, [])
        self.refused(NoProgram, Hall, thing, [("none", [])])

    def test_each_deed(self):
        for deed in DEEDS:
            with self.subTest(deed):
                self.assertIs(is_program(program_of(deed)), True)
        self.assertIs(is_program(program_of(*DEEDS)), True)
        self.assertIs(is_program(thing=program_of(*DEEDS * 20)), True)
        for expression in EXPRESSIONS:
            for deed in (("write", expression), ("if", expression), ("set", PLACES[0], expression),
                         ("do", "b", [expression, ONE]), ("for", "i", expression, ONE, ONE),
                         ("for", "i", ONE, expression, ONE), ("for", "i", ONE, ONE, expression)):
                self.assertIs(is_program(program_of(deed)), True)

    def test_labels_and_rows(self):
        for program in ([], [("a", [], [])], [("a", ["x"], [[]])], [("a", [], [[], []]), ("ab", [], []), ("b", [], [])],
                        [("abcdefgh", ["abcdefgh", "a", "z", "b"], [[("quit",)], [("quit",), ("halt",)]])]):
            self.assertIs(is_program(program), True)

    def test_labels_twice_or_out_of_order(self):
        self.no_program([("a", [], []), ("a", [], [])])
        self.no_program([("a", [], []), ("a", ["x"], [])])
        self.no_program([("b", [], []), ("a", [], [])])
        self.no_program([("ab", [], []), ("a", [], [])])
        self.no_program([("a", [], []), ("c", [], []), ("b", [], [])])
        self.no_program([("a", [], []), ("b", [], []), ("a", [], [])])

    def test_params(self):
        self.no_program([("a", ["x", "x"], [])])
        self.no_program([("a", ["x", "y", "x"], [])])
        for params in (("x",), "x", None, {}, {"x": 1}, 1, ["x", None]):
            self.no_program([("a", params, [])])
        for name in NO_NAMES:
            self.no_program([("a", [name], [])])
            self.no_program([("a", ["x", name], [])])
            self.no_program([(name, [], [])])

    def test_labels_of_another_form(self):
        for label in (("a",), ("a", []), ("a", [], [], []), ["a", [], []], "abc", None, 1, {}, (), ([], "a", []),
                      ("a", [], ()), ("a", [], None), ("a", [], {}), ("a", [], ""), ("a", [], [()]), ("a", [], [None]),
                      ("a", [], [("quit",)]), ("a", [], [{}]), ("a", [], [""]), ("a", [], [[("quit",)], None]),
                      ("a", [], [[[("quit",)]]])):
            with self.subTest(repr(label)):
                self.no_program([label])
                self.no_program([("b", [], []), label])

    def test_things_that_are_no_lists(self):
        for thing in (None, True, 0, 1, "", "a|", (), (("a", [], []),), {}, {"a": 1}, object(), b"", is_program):
            self.no_program(thing)

    def test_a_part_out_or_twice(self):
        for deed in DEEDS:
            for place in range(len(deed)):
                with self.subTest(deed=deed, place=place):
                    if deed[:place] + deed[place + 1:] != ("free_all",):
                        self.no_program(program_of(deed[:place] + deed[place + 1:]))
                    self.no_program(program_of(deed[:place] + (deed[place],) + deed[place:]))
            for more in (ONE, [], None, "a", PLACES[1]):
                self.no_program(program_of(deed + (more,)))
            self.no_program(program_of(list(deed)))
            self.no_program(program_of(DEEDS[0], list(deed)))

    def test_no_deeds(self):
        for deed in (None, 1, "quit", (), [], {}, ("is", "1"), ("free",), ("Quit",), ("quit ",), ("", ONE), (None,),
                     (1,), (["quit"],), (("quit",),), ("op", "+", ONE, ONE), ("free_all", at("a")), ("free all",)):
            with self.subTest(repr(deed)):
                self.no_program(program_of(deed))
                self.no_program(program_of(("quit",), deed))

    def test_something_else_for_each_part(self):
        for deed in DEEDS:
            for place in range(1, len(deed)):
                for other in (None, 1, True, b"1", {}, "%", "A", ("is",), ["X"], [None], (), ("quit",), ["x", "x"]):
                    changed = deed[:place] + (other,) + deed[place + 1:]
                    with self.subTest(repr(changed)):
                        self.no_program(program_of(changed))

    def test_places(self):
        for expression in EXPRESSIONS:
            is_place = expression[0] in ("var", "at", "short")
            self.assertIs(is_program(program_of(("set", expression, ONE))), is_place)
            self.assertIs(is_program(program_of(("kill", expression))), is_place)

    def test_lock_and_free_of_at_places_alone(self):
        for word in ("lock", "free"):
            self.assertIs(is_program(program_of((word, at("a")))), True)
            self.assertIs(is_program(program_of((word, at("a", "x", "")))), True)
            for place in (var("a"), var("a", "x"), short("x"), ONE, "a", ("a", ()), ("at", "A", []), ("at", "a"),
                          ("at", "a", ()), ("at", "a", [None]), ("at", "a", [("is", "%")]), ["at", "a", []]):
                self.no_program(program_of((word, place)))

    def test_do(self):
        self.no_program(program_of(("do", "c", [])))
        self.no_program(program_of(("do", "a", [ONE])))
        self.no_program(program_of(("do", "b", [])))
        self.no_program(program_of(("do", "b", [ONE])))
        self.no_program(program_of(("do", "b", [ONE] * 3)))
        self.no_program(program_of(("do", "b", (ONE, ONE))))
        self.no_program(program_of(("do", "p", [])))
        self.no_program([("a", [], [[("do", "b", [])]])])
        self.assertIs(is_program([("a", [], [[("do", "b", [ONE])]]), ("b", ["x"], [[("do", "a", [])]])]), True)
        for name in NO_NAMES:
            self.no_program(program_of(("do", name, [])))

    def test_new_and_for(self):
        for names in ([], ["x", "x"], ["x", "y", "x"], ("x",), "x", ["x", "Y"], None, [["x"]]):
            self.no_program(program_of(("new", names)))
        for name in NO_NAMES:
            self.no_program(program_of(("new", [name])))
            self.no_program(program_of(("for", name, ONE, ONE, ONE)))
        self.no_program(program_of(("for", var("i"), ONE, ONE, ONE)))
        self.no_program(program_of(("for", "i", ONE, ONE)))

    def test_forty_within_one_another(self):
        self.assertIs(is_program(program_of(("write", within("not", ONE, 34)))), True)
        for kind in ("list", "tuple", "dict"):
            for start in (None, (), [], ("quit",)):
                self.no_program(within(kind, start, 38))
                self.no_program(program_of(within(kind, start, 34)))
                self.no_program(program_of(("write", within(kind, start, 33))))

    def test_the_greatest_ones(self):
        deeds = [("set", at("c", "1", "x"), ("op", "+", ("data", var("a", "1")), ONE)), ("if", ONE)] * 6
        labels = sorted(f"label{letter}" for letter in "abcdefghijklmnopqrst")
        program = [(label, ["x"], [list(deeds) for _ in range(520)]) for label in labels]
        self.assertIs(is_program(program), True)
        self.assertEqual(Hall(program, [("labela", ["1"])]).turn(0), "step")
        program[19][2][519][11] = ("if",)
        self.assertIs(is_program(program), False)

    def test_nothing_is_changed(self):
        program, same = program_of(*DEEDS), program_of(*DEEDS)
        is_program(program)
        Hall(program, [("a", [])])
        self.assertEqual(program, same)
