"""A plain model of one job: what [25] and [26] tell of rows, loops and labels, as calls within calls."""

from tests.support import PlainArrays


class PlainJob:
    """A job that uses names without keys alone, and ops of a few signs; each yield is the end of a turn."""

    def __init__(self, program):
        self.labels = {label: (params, rows) for label, params, rows in program}
        self.own = PlainArrays()
        self.test = False
        self.written = []

    def words(self, label, worths, most):
        """Tell the words of so many turns at most; the last one is `over` where the job ends."""
        turns = self.label(label, worths)
        told = []
        for _ in turns:
            told.append("step")
            if len(told) > most:
                return told[:most]
        return told[:-1] + ["over"] if told else told

    def label(self, label, worths):
        params, rows = self.labels[label]
        kept = self.put_aside(params)
        for param, worth in zip(params, worths):
            self.own.put((param, ()), worth)
        for row in rows:
            end = yield from self.rest(row, kept, False)
            if end in ("label", "halt"):
                break
        else:
            end = ""
        for name, nodes in reversed(kept):
            self.own.kill((name, ()))
            self.own.worths.update(nodes)
        return end

    def put_aside(self, names):
        kept = [(name, dict(self.own.rows((name, ())))) for name in names]
        for name in names:
            self.own.kill((name, ()))
        return kept

    def rest(self, deeds, kept, is_in_loop):
        """Do deeds; tell what ends behind them: the row (or round), the loop, the label, or all."""
        for place, deed in enumerate(deeds):
            word = deed[0]
            if word == "for":
                return (yield from self.loop(deed, deeds[place + 1:], kept, is_in_loop))
            if word == "do":
                worths = [self.reckon(part) for part in deed[2]]
                yield
                if (yield from self.label(deed[1], worths)) == "halt":
                    return "halt"
                continue
            passed = self.plain_deed(deed, kept)
            yield
            if word == "halt":
                return "halt"
            if word == "quit":
                return "loop" if is_in_loop else "label"
            if passed:
                return "row"
        return "row"

    def plain_deed(self, deed, kept):
        """Do a deed that is done at once; tell whether the rest is passed over."""
        word = deed[0]
        if word == "set":
            self.own.put((deed[1][1], ()), self.reckon(deed[2]))
        elif word == "kill":
            self.own.kill((deed[1][1], ()))
        elif word == "write":
            self.written.append(self.reckon(deed[1]))
        elif word == "new":
            kept.extend(self.put_aside(deed[1]))
        elif word == "if":
            self.test = int(self.reckon(deed[1])) != 0
            return not self.test
        return word == "else" and self.test

    def loop(self, deed, rest, kept, is_in_loop):
        first, step, last = [int(self.reckon(part)) for part in deed[2:]]
        now = first

        def is_beyond():
            return (now > last and step > 0) or (now < last and step < 0)
        begun = not is_beyond()
        if begun:
            self.own.put((deed[1], ()), str(now))
        yield
        while begun:
            end = yield from self.rest(rest, kept, True)
            if end in ("halt", "label"):
                return end
            if end == "loop":
                return "row"
            now += step
            if is_beyond():
                yield
                break
            self.own.put((deed[1], ()), str(now))
            yield
        return "row"

    def reckon(self, expression):
        word = expression[0]
        if word == "is":
            return expression[1]
        if word == "other":
            return self.own.read((expression[1][1], ()), self.reckon(expression[2]))
        if word == "not":
            return str(int(int(self.reckon(expression[1])) == 0))
        one, other = self.reckon(expression[2]), self.reckon(expression[3])
        if expression[1] == "+":
            return str(int(one) + int(other))
        if expression[1] == "<":
            return str(int(int(one) < int(other)))
        return str(int(one == other))


def random_job(dice, labels="abcd"):
    """Tell a program whose labels do those behind them, sometimes themselves."""
    program = []
    many = {label: dice.randint(0, 2) for label in labels}
    for place, label in enumerate(labels):
        others = labels[place + 1:] + (label if dice.random() < 0.3 else "")
        rows = [[deed_of(dice, others, many) for _ in range(dice.randint(0, 5))] for _ in range(dice.randint(0, 4))]
        program.append((label, ["x", "p"][:many[label]], rows))
    return program


def deed_of(dice, others, many):
    """Tell a deed of a job."""
    word = dice.choice(["set", "set", "kill", "write", "write", "if", "else", "for", "for", "do", "quit", "new"]
                       + ["halt"] * (dice.random() < 0.1))
    if word == "do":
        if not others:
            return ("write", expression_of(dice))
        label = dice.choice(others)
        return ("do", label, [expression_of(dice) for _ in range(many[label])])
    if word == "for":
        step = dice.choice(["1", "1", "2", "-1"])
        return ("for", dice.choice("xyz"), ("is", "1"), ("is", step), ("is", dice.choice(["0", "1", "2", "3"])))
    name = ("var", dice.choice("xyzp"), [])
    told = {"set": (name, expression_of(dice)), "kill": (name,), "write": (expression_of(dice),),
            "if": (expression_of(dice),), "new": (dice.sample("xyzp", dice.randint(1, 2)),)}
    return (word, *told.get(word, ()))


def expression_of(dice):
    """Tell an expression that never errs: names that are not there tell a number instead."""
    one = ("other", ("var", dice.choice("xyzp"), []), ("is", dice.choice("0123")))
    turn = dice.random()
    if turn < 0.4:
        return one
    if turn < 0.5:
        return ("not", one)
    return ("op", dice.choice("+<="), one, ("is", dice.choice("0123")))
