"""[30] to [32]: writing, and reading back."""

import random

from stemkeep.arrays import Arrays
from stemkeep.errors import NoText
from stemkeep.jobs import Hall, is_program
from stemkeep.terms import Scene, is_expression
from stemkeep.texts import read_arrays, read_expression, read_program, show_arrays, show_expression, show_program
from tests.support import Case
from tests.test_arrays import state
from tests.test_programs import DEEDS
from tests.test_terms import EXPRESSIONS, ONE, SIGNS, at, is_, short, var, within

PLUS = ("op", "+", var("a"), var("b"))
WRITTEN = {
    "0": is_("0"), "7": is_("7"), "12345678901234567890": is_("12345678901234567890"), '""': is_(""),
    '"a"': is_("a"), '"-7"': is_("-7"), '"07"': is_("07"), '"+7"': is_("+7"), '"7 "': is_("7 "), '"7.5"': is_("7.5"),
    '"-0"': is_("-0"), '"a""b"': is_('a"b'), '""""': is_('"'), '""""""': is_('""'), '"|; "': is_("|; "),
    '"a(b,c)"': is_("a(b,c)"), "a": var("a"), "abcdefgh": var("abcdefgh"), "a(1)": var("a", "1"),
    'a(1,"x","")': var("a", "1", "x", ""), "^a": at("a"), '^a("x",2)': at("a", "x", "2"), "^(1)": short("1"),
    '^(1,"")': short("1", ""), "^(^(1))": ("short", [short("1")]),
    "a(b(c),^d)": ("var", "a", [("var", "b", [var("c")]), at("d")]), "a(a+b)": ("var", "a", [PLUS]), "a+b": PLUS,
    "a+b+a": ("op", "+", PLUS, var("a")), "a+(a+b)": ("op", "+", var("a"), PLUS),
    "a+b-(a+b)*(a+b+1)": ("op", "*", ("op", "-", PLUS, PLUS), ("op", "+", PLUS, ONE)),
    "a-(b-(c-1))": ("op", "-", var("a"), ("op", "-", var("b"), ("op", "-", var("c"), ONE))), "'a": ("not", var("a")),
    "-a": ("minus", var("a")), "-7": ("minus", is_("7")), '-"-7"': ("minus", is_("-7")),
    "''a": ("not", ("not", var("a"))), "'-'-1": ("not", ("minus", ("not", ("minus", ONE)))),
    "--1": ("minus", ("minus", ONE)), "'(a+b)": ("not", PLUS), "-(a+b)": ("minus", PLUS),
    "'a+b": ("op", "+", ("not", var("a")), var("b")), "-a+b": ("op", "+", ("minus", var("a")), var("b")),
    "a--b": ("op", "-", var("a"), ("minus", var("b"))), "a='b": ("op", "=", var("a"), ("not", var("b"))),
    "a-'(a+b)": ("op", "-", var("a"), ("not", PLUS)), "'(a+b)+1": ("op", "+", ("not", PLUS), ONE),
    "-(-(a+b)+1)": ("minus", ("op", "+", ("minus", PLUS), ONE)), "$length(a)": ("length", var("a")),
    "$length(a+b)": ("length", PLUS), "$piece(a,\",\",1)": ("piece", var("a"), is_(","), ONE),
    "$part(a+b,1,-1)": ("part", PLUS, ONE, ("minus", ONE)), '$order(^a(""))': ("order", at("a", "")),
    "$back(a)": ("back", var("a")), "$back(^(1))": ("back", short("1")), "$data(^a)": ("data", at("a")),
    "$other(a,b)": ("other", var("a"), var("b")), "$other(^(1),a+b)": ("other", short("1"), PLUS),
    "a+$data(b)+1": ("op", "+", ("op", "+", var("a"), ("data", var("b"))), ONE),
    "'$data(a)": ("not", ("data", var("a"))),
}
NO_EXPRESSIONS = [
    '', ' ', 'a ', ' a', 'a +b', 'a+ b', 'a( 1)', 'a(1 )', 'a(1, 2)', 'a (1)', '^ a', '$ data(a)', '- 1', '(a)',
    '(a+b)', '(1)', '((a+b))', 'a+(b)', 'a+(1)', '(a+b)+c', 'a+((b+c))', "'(a)", '-(1)', "'((a+b))", "a+('b)",
    'a+(-b)', 'a+(b(1))', 'a(b', 'a)', 'a(b))', 'a()', '^a()', '^()', '^', '^1', 'a(,)', 'a(1,)', 'a(,1)', 'a(1,,2)',
    'a+', '+a', 'a+*b', 'a++b', '*1', 'a b', '1a', '1 1', '01', '00', '-01', '"7"', '"0"', '"12"', '+1', '1.5',
    '1e5', 'a1', 'A', 'aB', 'abcdefghi', '^abcdefghi', '^A', 'a_', '"', '"a', 'a"', '"a"b"', '"a""', '"""',
    '"a" "b"', '"a""b', '"%"', '"a%"', '"\n"', '"\xe4"', '"\x7f"', 'a%b', 'a^b', "a'b", "a'=b", 'a<=b', 'a>=b',
    'a**b', 'a|b', 'a$b', '$', '$length', '$length()', '$length(a,b)', 'length(a,b,)', '$Length(a)', '$len(a)',
    '$piece(a,b)', '$piece(a,b,c,d)', '$part(a)', '$order(1)', '$order("a")', '$order(a+b)', '$order($data(a))',
    '$order(a,b)', "$back('a)", '$data(-a)', '$data()', '$other(a)', '$other(1,a)', '$other(a,b,c)', '$op(a)',
    '$not(a)', '$minus(1)', '$is(1)', '$is(a)', '$var(a)', '$short(1)', '$at(a)', '$data(a)(1)', 'a(1)(2)',
    '$data (a)', '$$data(a)', "'", '-', "''", 'a=', '=a', 'a;b', 'a:b', 'a,b', '1,2', '[a]', '{a}', 'a\n', 'a|',
    '\xe4', 'a+b)', '(a+b', 'a+(b+c', "'(a+b", '1(2)', '"a"(1)', '^a(1)^b', 'a~b', 'a?b', 'a@b', 'a\\b', 'a`b',
    '\uff11', '\u0661', 'a("x)', '^(1)(2)', '^^a', "'^", '$data(^)',
]
PROGRAMS = {
    "": [],
    "a|": [("a", [], [])],
    "a|b|": [("a", [], []), ("b", [], [])],
    "a(x)|": [("a", ["x"], [])],
    "a(z,x,abcdefgh)|  |": [("a", ["z", "x", "abcdefgh"], [[]])],
    "a|  |  |b|  |": [("a", [], [[], []]), ("b", [], [[]])],
    "a|  quit|": [("a", [], [[("quit",)]])],
    "a|  quit; quit|  halt|": [("a", [], [[("quit",), ("quit",)], [("halt",)]])],
    "a|  set x=1; set ^y(1)=\"a; b|\"; set ^(2,3)=a=b|": [("a", [], [[
        ("set", var("x"), ONE), ("set", at("y", "1"), is_("a; b|")),
        ("set", short("2", "3"), ("op", "=", var("a"), var("b")))]])],
    "a|  kill x; kill ^y(1); kill ^(2)|": [("a", [],
                                            [[("kill", var("x")), ("kill", at("y", "1")), ("kill", short("2"))]])],
    "a|  write 1+2|  write \"a\"\"b\"|": [("a", [],
                                           [[("write", ("op", "+", ONE, is_("2")))], [("write", is_('a"b'))]])],
    "a|  if x; else|": [("a", [], [[("if", var("x")), ("else",)]])],
    "a|  for i=1:-1:a+b; for for=for:for:for|": [("a", [], [[
        ("for", "i", ONE, ("minus", ONE), PLUS), ("for", "for", var("for"), var("for"), var("for"))]])],
    "a|  do a; do b(1,a+b)|b(x,y)|": [("a", [], [[("do", "a", []), ("do", "b", [ONE, PLUS])]]), ("b", ["x", "y"], [])],
    "a|  new x; new x,y,z|": [("a", [], [[("new", ["x"]), ("new", ["x", "y", "z"])]])],
    "a|  lock ^x; lock ^x(1); free ^x(1); free; free ^free|": [("a", [], [[
        ("lock", at("x")), ("lock", at("x", "1")), ("free", at("x", "1")), ("free_all",), ("free", at("free"))]])],
    "a|  start; keep; undo; halt|": [("a", [], [[("start",), ("keep",), ("undo",), ("halt",)]])],
    "do|  do do; do set(set)|set(quit)|  set set=quit|": [
        ("do", [], [[("do", "do", []), ("do", "set", [var("set")])]]),
        ("set", ["quit"], [[("set", var("set"), var("quit"))]])],
}
NO_PROGRAMS = [
    ' ', '|', '||', 'a', 'a|b', 'a|  quit', 'a|  quit|b', 'a|  quit|  quit', '  quit|', '  |', '  quit|a|', 'a|\n',
    'a\n', 'a| ', ' a|', 'a |', 'a| quit|', 'a|   quit|', 'a|  quit |', 'a|  quit;|', 'a|  quit; |',
    'a|  quit;quit|', 'a|  quit;  quit|', 'a|  quit ; quit|', 'a|  ; quit|', 'a|   |', 'a| |', 'a|  quit||', 'a||',
    'a||b|', 'b|a|', 'a|a|', 'ab|a|', 'A|', 'a1|', 'abcdefghi|', 'a()|', 'a(|', 'a)|', 'a(x|', 'a(x,)|', 'a(,x)|',
    'a(x, y)|', 'a( x)|', 'a(x )|', 'a (x)|', 'a(x,x)|', 'a(X)|', 'a(1)|', 'a(abcdefghi)|', 'a(x)(y)|', 'a(x)||',
    'a,b|', 'a|  set x|', 'a|  set x =1|', 'a|  set x= 1|', 'a|  set  x=1|', 'a|  set x=|', 'a|  set =1|',
    'a|  set 1=1|', 'a|  set a+b=1|', 'a|  set (x)=1|', 'a|  set x=(1)|', 'a|  set x=1,y=2|', 'a|  set|',
    'a|  setx=1|', 'a|  set $data(x)=1|', 'a|  Set x=1|', 'a|  set x="7"|', 'a|  set x=07|', 'a|  set x="a|',
    'a|  set x="%"|', 'a|  kill|', 'a|  kill 1|', 'a|  kill a+b|', 'a|  kill  x|', 'a|  kill x,y|',
    'a|  kill $data(x)|', 'a|  write|', 'a|  write |', 'a|  write  1|', 'a|  write 1 |', 'a|  write 1,2|',
    'a|  write (1)|', 'a|  write 1|2|', 'a|  write(1)|', 'a|  if|', 'a|  if |', 'a|  else |', 'a|  else 1|',
    'a|  elsewrite 1|', 'a|  for|', 'a|  for i|', 'a|  for i=1|', 'a|  for i=1:1|', 'a|  for i=1:1:1:1|',
    'a|  for i=1: 1:1|', 'a|  for i =1:1:1|', 'a|  for i(1)=1:1:1|', 'a|  for ^i=1:1:1|', 'a|  for 1=1:1:1|',
    'a|  for =1:1:1|', 'a|  for i=::|', 'a|  for abcdefghi=1:1:1|', 'a|  for i=1:1:|', 'a|  for I=1:1:1|', 'a|  do|',
    'a|  do |', 'a|  do b|', 'a|  do a()|', 'a|  do a(1)|', 'a|  do a |', 'a|  do  a|', 'a|  do ^a|', 'a|  do a,a|',
    'a|  do 1|', 'a(x)|  do a|', 'a(x)|  do a(1,2)|', 'a(x)|  do a((1))|', 'a(x)|  do a( 1)|', 'a(x)|  do a (1)|',
    'a(x)|  do a(1|', 'a|  quit 1|', 'a|  quit quit|', 'a|  quitt|', 'a|  halt 1|', 'a|  start 1|', 'a|  keep 1|',
    'a|  undo 1|', 'a|  stop|', 'a|  1|', 'a|  new|', 'a|  new |', 'a|  new x,|', 'a|  new ,x|', 'a|  new x, y|',
    'a|  new x,x|', 'a|  new x(1)|', 'a|  new ^x|', 'a|  new (x)|', 'a|  new abcdefghi|', 'a|  new 1|', 'a|  lock|',
    'a|  lock x|', 'a|  lock ^(1)|', 'a|  lock 1|', 'a|  lock ^x,^y|', 'a|  lock ^x+1|', 'a|  lock (^x)|',
    'a|  lock  ^x|', 'a|  free |', 'a|  free x|', 'a|  free ^(1)|', 'a|  free_all|', 'a|  free all|',
    'a|  free ^x |', 'a|  free 1|', 'a|  freeze|', 'a|  free_all ^x|', 'a|  xx|', 'a|  op|', 'a|  is 1|', 'a|  x=1|',
    "a|  'x|", 'a|  quit|\xe4|',
]
NO_TEXTS = [None, True, 0, 7, b"a", b"", [], ["a"], (), ("a",), {}, object(), ("is", "1"), [("a", [], [])]]


class TestExpressions(Case):

    def test_each_way_of_writing(self):
        for text, expression in WRITTEN.items():
            with self.subTest(text):
                self.assertIs(is_expression(expression), True)
                self.assertEqual(show_expression(expression), text)
                self.assertEqual(read_expression(text), expression)
        for expression in EXPRESSIONS:
            self.assertEqual(read_expression(show_expression(expression)), expression)

    def test_each_sign(self):
        for sign in SIGNS:
            for other in SIGNS:
                left = ("op", other, ("op", sign, var("a"), ONE), is_("x"))
                right = ("op", sign, var("a"), ("op", other, ONE, is_("x")))
                self.assertEqual(show_expression(left), f'a{sign}1{other}"x"')
                self.assertEqual(show_expression(right), f'a{sign}(1{other}"x")')
                for expression in (left, right):
                    self.assertEqual(read_expression(show_expression(expression)), expression)

    def test_every_other_text_is_refused(self):
        for text in NO_EXPRESSIONS:
            with self.subTest(text):
                self.refused(NoText, read_expression, text)

    def test_one_sign_more_or_less(self):
        read = 0
        for text in WRITTEN:
            for place in range(len(text) + 1):
                for sign in ["", " ", "(", ")", "0", "1", "a", '"', "'", "-", ",", "^", "$", "+", "|"]:
                    for changed in (text[:place] + sign + text[place:], text[:place] + sign + text[place + 1:]):
                        try:
                            told = read_expression(changed)
                        except NoText:
                            continue
                        read += 1
                        self.assertEqual(show_expression(told), changed)
        self.assertGreater(read, 500)

    def test_what_is_no_text(self):
        for thing in NO_TEXTS:
            self.refused(NoText, read_expression, thing)

    def test_what_is_no_expression(self):
        for thing in [None, True, 7, "a", b"a", [], ["is", "1"], (), ("is",), ("is", 1), ("is", "%"), {}, object(),
                      ("short", []), ("order", ONE), ("op", "^", ONE, ONE), ("var", "A", []), ("quit",),
                      ("var", "a", (ONE,))]:
            self.refused(NoText, show_expression, thing)
        for kind in ("list", "tuple", "dict", "not"):
            self.refused(NoText, show_expression, within(kind, None, 38))

    def test_worths(self):
        for number in (0, 1, 9, 10, 10 ** 40):
            self.assertEqual(show_expression(is_(str(number))), str(number))
            self.assertEqual(show_expression(is_(f"-{number}")), f'"-{number}"')
            self.assertEqual(show_expression(is_(f"0{number}")), f'"0{number}"')
        every = "".join(chr(code) for code in range(32, 127) if code != 37)
        self.assertEqual(show_expression(is_(every)), '"' + every.replace('"', '""') + '"')
        self.assertEqual(read_expression(show_expression(is_(every))), is_(every))

    def test_forty_within_one_another(self):
        chains = [ONE, ONE, ONE, ONE, ONE]
        for _ in range(39):
            chains = [("op", "+", chains[0], ONE), ("op", "-", ONE, chains[1]), ("not", chains[2]),
                      ("minus", chains[3]),
                      ("length", chains[4])]
        lists = [ONE, ONE, ("at", "a", [])]
        for _ in range(19):
            lists = [("var", "a", [ONE, lists[0]]), ("short", [lists[1]]), ("at", "b", [("data", lists[2])])]
        for expression in chains + lists:
            text = show_expression(expression)
            self.assertEqual(read_expression(text), expression)
            self.assertEqual(show_expression(read_expression(text)), text)

    def test_more_than_forty_within_one_another(self):
        def made(times):
            return ["1" + "+1" * times, "1+(" * times + "1+1" + ")" * times, "'" * times + "1", "-" * times + "1",
                    "a(" * times + "1" + ")" * times, "^(" * times + "1" + ")" * times,
                    "$length(" * times + "1" + ")" * times,
                    "a(1+" * times + "1" + ")" * times, "'(1+" * times + "1" + ")" * times,
                    "$other(a," * times + "1" + ")" * times]
        for times in list(range(1, 80)) + [200, 300]:
            for text in made(times):
                try:
                    told = read_expression(text)
                except NoText:
                    self.assertGreater(times, 12)
                    continue
                self.assertIs(is_expression(told), True)
                self.assertEqual(show_expression(told), text)

    def test_texts_that_open_three_thousand_times(self):
        for text in ("(", "a(", "^(", "^a(", "$length(", "$piece(", "$other(a,", "'", "-", "'(", "-(", "1+(", "1-",
                     "a+", "$", "^", "a(1,",
                     "a,", "'-", "1=", "$order(", "a(-", "1+'(1+"):
            for size in (3000, 3000 // len(text), 100):
                self.refused(NoText, read_expression, text * size)
                self.refused(NoText, read_expression, (text * size)[:3000])
                self.refused(NoText, read_expression, (text * size)[:3000] + "1")
                self.refused(NoText, read_expression, (text * size)[:1500] + "1" + ")" * 1500)
                self.refused(NoText, read_program, "a|  write " + text * size + "|")
                self.refused(NoText, read_program, text * size)

    def test_long_texts(self):
        for text in ("a(" + ",".join(["1"] * 1490) + ")", '"' + "x" * 2998 + '"', "9" * 3000,
                     "^a(" + ",".join(["b+c"] * 740) + ")"):
            self.assertEqual(show_expression(read_expression(text)), text)

    def test_lists_that_are_told_are_new(self):
        one, other = read_expression("a(b,c)+a(b,c)"), read_expression("a(b,c)+a(b,c)")
        one[2][2].clear()
        one[3][2].append(ONE)
        other[2][2][0][2].append(ONE)
        self.assertEqual(other[3], ("var", "a", [var("b"), var("c")]))
        self.assertEqual(other[2][2], [var("b", "1"), var("c")])
        self.assertEqual(show_expression(read_expression("a(b,c)+a(b,c)")), "a(b,c)+a(b,c)")
        parts = [ONE]
        show_expression(("var", "a", parts))
        self.assertEqual(parts, [ONE])

    def test_what_is_read_is_reckoned(self):
        scene = Scene(Arrays(), None)
        for text, worth in (("1+2*3", "9"), ("1+(2*3)", "7"), ("10-2-3", "5"), ("10-(2-3)", "11"), ("-3+5", "2"),
                            ("-(3+5)", "-8"),
                            ("'0+1", "2"), ("'(0+1)", "0"), ("2<3=1", "1"), ('"a"_"b"["ab"', "1"),
                            ('$piece("a,b",",",1+1)', "b"),
                            ("7#-3", "-2"), ("--3", "3"), ('"""a"""]"a"', "0")):
            self.assertEqual(scene.reckon(read_expression(text)), worth)

    def test_arguments_by_their_names(self):
        self.assertEqual(read_expression(text="1"), ONE)
        self.assertEqual(show_expression(expression=ONE), "1")
        self.assertEqual(read_program(text="a|"), [("a", [], [])])
        self.assertEqual(show_program(program=[("a", [], [])]), "a|")
        self.assertEqual(show_arrays(arrays=read_arrays(texts=['^a="1"'])), ['^a="1"'])


class TestPrograms(Case):

    def test_each_way_of_writing(self):
        for text, program in PROGRAMS.items():
            with self.subTest(text):
                self.assertIs(is_program(program), True)
                self.assertEqual(show_program(program), text)
                self.assertEqual(read_program(text), program)

    def test_each_deed(self):
        for deeds in [DEEDS, DEEDS[::-1]] + [[deed] for deed in DEEDS]:
            program = [("a", [], [deeds, [], deeds]), ("b", ["p", "q"], [deeds])]
            self.assertEqual(read_program(show_program(program)), program)
        for expression in EXPRESSIONS:
            program = [("a", ["x"], [[("write", expression), ("for", "i", expression, expression, expression),
                                      ("set", var("x"), expression), ("do", "a", [expression]), ("if", expression)]])]
            self.assertEqual(read_program(show_program(program)), program)

    def test_every_other_text_is_refused(self):
        for text in NO_PROGRAMS:
            with self.subTest(text):
                self.refused(NoText, read_program, text)

    def test_one_sign_more_or_less(self):
        read = 0
        for text in PROGRAMS:
            for place in range(len(text) + 1):
                for sign in ["", " ", "  ", "(", ")", "1", "a", '"', "|", ";", "; ", ",", "="]:
                    for changed in (text[:place] + sign + text[place:], text[:place] + sign + text[place + 1:]):
                        try:
                            told = read_program(changed)
                        except NoText:
                            continue
                        read += 1
                        self.assertEqual(show_program(told), changed)
        self.assertGreater(read, 100)

    def test_what_is_no_text(self):
        for thing in NO_TEXTS:
            self.refused(NoText, read_program, thing)

    def test_what_is_no_program(self):
        for thing in [None, True, 7, "a|", "", b"a|", (), (("a", [], []),), {}, object(), [None], [("a", [])],
                      [("b", [], []), ("a", [], [])],
                      [("a", [], [[("quit", 1)]])], [("a", [], [[("do", "b", [])]])],
                      [("a", [], [[("lock", var("x"))]])], ("is", "1")]:
            self.refused(NoText, show_program, thing)
        for kind in ("list", "tuple", "dict"):
            self.refused(NoText, show_program, within(kind, None, 38))

    def test_worths_with_ends_of_lines_and_deeds(self):
        for worth in ("|", "||", "; ", ";", "  ", "|  quit|", "\"", "\"|\"", "a|b|", ",", "=", ":", ")"):
            program = [("a", [], [[("write", is_(worth)), ("set", var("x", worth), is_(worth))],
                                  [("if", is_(worth))]]), ("b", [], [])]
            self.assertEqual(read_program(show_program(program)), program)

    def test_more_than_forty_within_one_another(self):
        for times in (1, 20, 34, 40, 60, 500):
            text = "a|  write " + "'" * times + "1|"
            try:
                self.assertEqual(show_program(read_program(text)), text)
            except NoText:
                self.assertGreater(times, 34)

    def test_many_labels_rows_and_deeds(self):
        labels = sorted({f"{one}{two}{three}" for one in "abcdefgh" for two in "abcdefghij" for three in "abcdefgh"})
        for text in ("".join(label + "|" for label in labels), "a|" + "  |" * 900,
                     "a|  " + "; ".join(["quit"] * 490) + "|",
                     "a|" + "  quit|" * 400, "a(" + ",".join(labels[:400]) + ")|",
                     "a|  new " + ",".join(labels[:400]) + "|"):
            self.assertEqual(show_program(read_program(text)), text)

    def test_the_greatest_ones(self):
        deeds = [("set", at("c", "1", "x"), PLUS), ("write", is_('a"|')), ("quit",)] * 4
        labels = sorted(f"label{letter}" for letter in "abcdefghijklmnopqrst")
        program = [(label, ["x"], [list(deeds) for _ in range(520)]) for label in labels]
        self.assertEqual(read_program(show_program(program)), program)

    def test_lists_that_are_told_are_new(self):
        text = "a|  new x; do b(^y(1))|  |b(x)|  |  quit|"
        one, other = read_program(text), read_program(text)
        one[0][2][0][0][1].append("y")
        one[0][2][0][1][2][0][2].clear()
        one[0][2][1].append(("quit",))
        one[0][1].append("z")
        one[1][2].clear()
        self.assertEqual(show_program(other), text)
        other[0][2][1].append(("quit",))
        self.assertEqual(show_program(other), text.replace("  |b", "  quit|b"))

    def test_what_is_read_is_done(self):
        hall = Hall(read_program('a(n)|  for i=1:1:n; set ^x(i)=i*i|  write $order(^x(""))|'), [("a", ["3"])])
        while not hall.is_over(0):
            hall.turn(0)
        self.assertEqual((hall.writings(0), len(hall.arrays())), (["1"], 3))


class TestArrays(Case):

    ROWS = [(("a", ()), ""), (("a", ("-1",)), "w"), (("a", ("2",)), "7"), (("a", ("2", 'q"')), '"'),
            (("a", ("10",)), "-7"),
            (("a", (" ",)), " "), (("a", ("01",)), ","), (("ab", ("x", "y", "1", "2", "3", "4")), ')="'),
            (("b", ()), "0")]
    TEXTS = ['^a=""', '^a("-1")="w"', '^a(2)="7"', '^a(2,"q""")=""""', '^a(10)="-7"', '^a(" ")=" "', '^a("01")=","',
             '^ab("x","y",1,2,3,4)=")="""', '^b="0"']

    def filled(self, rows):
        arrays = Arrays()
        for ref, worth in rows:
            arrays.put(ref, worth)
        return arrays

    def test_each_way_of_writing(self):
        for rows in (self.ROWS, self.ROWS[::-1]):
            self.assertEqual(show_arrays(self.filled(rows)), self.TEXTS)
        arrays = read_arrays(self.TEXTS)
        self.assertIs(type(arrays), Arrays)
        self.assertEqual(state(arrays), state(self.filled(self.ROWS)))
        for row, text in zip(self.ROWS, self.TEXTS):
            self.assertEqual(show_arrays(self.filled([row])), [text])
            self.assertEqual(state(read_arrays([text])), [[row]])
        self.assertEqual(show_arrays(Arrays()), [])
        self.assertEqual(read_arrays([]).count(), 0)

    def test_every_other_text_is_refused(self):
        for text in ["", "^a", "^a=", '^a="', '^a=1', '^a="1', '^a="1" ', ' ^a="1"', '^a ="1"', '^a= "1"', 'a="1"',
                     '^A="1"', '^a()="1"',
                     '^a(1="1"', '^a(1)"1"', '^a(1,)="1"', '^a(,1)="1"', '^a(1, 2)="1"', '^a("1")="1"', '^a(01)="1"',
                     '^a(-1)="1"',
                     '^a(x)="1"', '^a(^x)="1"', '^a("")="1"', '^a(1,"")="1"', '^a("' + "k" * 41 + '")="1"',
                     '^a(' + "1" * 41 + ')="1"',
                     '^a(1,1,1,1,1,1,1)="1"', '^abcdefghi="1"', '^("x")="1"', '^="1"', '^a="1"="1"', '^a="1"|',
                     '^a="%"', '^a="\n"',
                     '^a("%")="1"', '^a="a"b"', '^a="""', '"a"="1"', '1="1"', '$data(^a)="1"', '-^a="1"', '^a+1="1"',
                     '^a("a"b")="1"',
                     '^a(1+1)="1"', '(^a)="1"', '^a("x"_"y")="1"', '^a=^b', '^a=""1""', '^a=\'1\'', "^a(" * 900,
                     '^a((1))="1"', '^a("x")=("1")']:
            with self.subTest(text):
                self.refused(NoText, read_arrays, [text])
                self.refused(NoText, read_arrays, ['^a="1"', text, '^b="1"'])

    def test_lists_out_of_order_or_twice(self):
        for place in range(len(self.TEXTS) - 1):
            changed = list(self.TEXTS)
            changed[place], changed[place + 1] = changed[place + 1], changed[place]
            self.refused(NoText, read_arrays, changed)
            self.refused(NoText, read_arrays, self.TEXTS[:place + 1] + self.TEXTS[place:])
        self.refused(NoText, read_arrays, ['^a(1)="1"', '^a(1)="2"'])
        self.refused(NoText, read_arrays, ['^a(1)="1"', '^a="2"'])
        self.refused(NoText, read_arrays, ['^a(10)="1"', '^a(9)="1"'])
        self.refused(NoText, read_arrays, ['^b="1"', '^a="1"'])
        self.refused(NoText, read_arrays, ['^a("x")="1"', '^a(1)="1"'])
        self.assertEqual(read_arrays(['^a(9)="1"', '^a(10)="1"']).count(), 2)

    def test_what_is_no_list_of_texts(self):
        for thing in [None, True, 7, "", '^a="1"', b"a", (), ('^a="1"',), {}, {'^a="1"': 1}, object(), Arrays()]:
            self.refused(NoText, read_arrays, thing)
        for thing in NO_TEXTS:
            self.refused(NoText, read_arrays, [thing])
            self.refused(NoText, read_arrays, ['^a="1"', thing])
        for kind in ("list", "tuple", "dict"):
            self.refused(NoText, read_arrays, within(kind, '^a="1"', 38))

    def test_what_is_handed_in_and_told(self):
        texts = list(self.TEXTS)
        arrays = read_arrays(texts)
        self.assertEqual(texts, self.TEXTS)
        texts.clear()
        told = show_arrays(arrays)
        arrays.kill(("a", ()))
        self.assertEqual(told, self.TEXTS)
        told.clear()
        self.assertEqual(show_arrays(arrays), self.TEXTS[-2:])
        self.assertEqual(state(read_arrays(self.TEXTS)), state(self.filled(self.ROWS)))

    def test_four_hundred_nodes(self):
        dice = random.Random(3)
        rows = [(("a", (str(dice.randint(-10 ** 39, 10 ** 39)), 'k"' * 20)), '"' * 200) for _ in range(400)]
        arrays = self.filled(rows)
        texts = show_arrays(arrays)
        self.assertEqual((len(texts), show_arrays(read_arrays(texts))), (400, texts))
        self.assertEqual(state(read_arrays(texts)), state(arrays))
        text = '^a="' + "w" * 2990 + '"'
        self.assertEqual(read_arrays([text]).read(("a", ())), "w" * 2990)
