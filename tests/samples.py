"""Formulas with their texts, written out by hand, and formulas made by a seeded chance."""

WORDS = ["yes", "no", "if", "sum", "count", "least", "most", "sumif", "find", "turn", "stack", "grid", "outer"]


def number(whole):
    return ("value", ("number", whole, 1))


def cell(row, column, row_stands=False, column_stands=False, sheet=None):
    return ("cell", sheet, (row, column, row_stands, column_stands))


def op(sign, one, other):
    return ("op", sign, one, other)


def neg(part):
    return ("neg", part)


A = ("name", "a")
B = ("name", "b")
C = ("name", "c")
ONE = number(1)
TWO = number(2)
A1 = cell(1, 1)
B3 = cell(3, 2)
AREA = ("range", None, (1, 1, False, False), (2, 3, False, False))

LEAVES = [
    (number(0), "0"),
    (number(7), "7"),
    (number(10), "10"),
    (number(100), "100"),
    (number(999999999), "999999999"),
    (("value", ("text", "")), '""'),
    (("value", ("text", "ab c")), '"ab c"'),
    (("value", ("text", " 09 z")), '" 09 z"'),
    (("value", ("text", "a" * 20)), '"' + "a" * 20 + '"'),
    (("value", ("text", "yes")), '"yes"'),
    (("value", ("truth", True)), "yes"),
    (("value", ("truth", False)), "no"),
    (A1, "A1"),
    (B3, "B3"),
    (cell(3, 2, False, True), "$B3"),
    (cell(3, 2, True, False), "B$3"),
    (cell(3, 2, True, True, "main"), "main!$B$3"),
    (cell(16, 8), "H16"),
    (cell(10, 8, sheet="a"), "a!H10"),
    (cell(1, 1, sheet="sum"), "sum!A1"),
    (cell(1, 1, sheet="yes"), "yes!A1"),
    (cell(9, 4, True, False, "abcdef"), "abcdef!D$9"),
    (AREA, "A1:C2"),
    (("range", None, (1, 1, False, False), (1, 1, False, False)), "A1:A1"),
    (("range", None, (12, 2, False, False), (12, 2, True, True)), "B12:$B$12"),
    (("range", "main", (2, 1, True, False), (16, 8, False, True)), "main!A$2:$H16"),
    (("range", "if", (5, 3, True, True), (10, 4, True, True)), "if!$C$5:$D$10"),
    (("columns", None, (2, False), (3, False)), "B:C"),
    (("columns", "main", (2, True), (3, False)), "main!$B:C"),
    (("columns", None, (8, False), (8, True)), "H:$H"),
    (("columns", "no", (1, True), (8, True)), "no!$A:$H"),
    (("gone",), "#"),
    (A, "a"),
    (("name", "abcdef"), "abcdef"),
    (("name", "yess"), "yess"),
    (("name", "su"), "su"),
    (("name", "neg"), "neg"),
    (("name", "op"), "op"),
    (("own", "zero", ()), "zero()"),
    (("own", "op", ()), "op()"),
    (("param", 0), "?0"),
    (("param", 1), "?1"),
    (("param", 2), "?2"),
]

CALLS = [
    (("own", "f", (ONE,)), "f(1)"),
    (("own", "twice", (A1, TWO)), "twice(A1;2)"),
    (("own", "abcdef", (A, B, C)), "abcdef(a;b;c)"),
    (("own", "neg", (ONE,)), "neg(1)"),
    (("own", "value", (ONE,)), "value(1)"),
    (("own", "sums", (("own", "sums", ()),)), "sums(sums())"),
    (("if", A, B, C), "if(a;b;c)"),
    (("sum", AREA), "sum(A1:C2)"),
    (("count", A), "count(a)"),
    (("least", A), "least(a)"),
    (("most", A), "most(a)"),
    (("sumif", A, "<", B, C), "sumif(a;<;b;c)"),
    (("sumif", AREA, "=", ONE, AREA), "sumif(A1:C2;=;1;A1:C2)"),
    (("find", A, B, C), "find(a;b;c)"),
    (("turn", A), "turn(a)"),
    (("stack", A, B), "stack(a;b)"),
    (("grid", 2, 3, A, B), "grid(2;3;a;b)"),
    (("grid", 16, 8, ONE, TWO), "grid(16;8;1;2)"),
    (("grid", 1, 1, ONE, TWO), "grid(1;1;1;2)"),
    (("outer", A), "outer(a)"),
    (("sum", cell(1, 1, sheet="sum")), "sum(sum!A1)"),
]

SIGNED = [
    (op("+", A, B), "a+b"),
    (op("-", A, B), "a-b"),
    (op("*", A, B), "a*b"),
    (op("/", A, B), "a/b"),
    (op("&", A, B), "a&b"),
    (op("=", A, B), "a=b"),
    (op("<", A, B), "a<b"),
    (neg(A), "-a"),
    (neg(ONE), "-1"),
    (neg(neg(A)), "--a"),
    (neg(neg(neg(("gone",)))), "---#"),
    (op("-", op("-", A, B), C), "a-b-c"),
    (op("-", A, op("-", B, C)), "a-(b-c)"),
    (op("-", A, op("+", B, C)), "a-(b+c)"),
    (op("+", op("-", A, B), C), "a-b+c"),
    (op("/", A, op("*", B, C)), "a/(b*c)"),
    (op("*", op("/", A, B), C), "a/b*c"),
    (op("+", A, op("*", B, C)), "a+b*c"),
    (op("*", op("+", A, B), C), "(a+b)*c"),
    (op("*", A, op("+", B, C)), "a*(b+c)"),
    (op("+", op("*", A, B), C), "a*b+c"),
    (op("=", op("=", A, B), C), "a=b=c"),
    (op("=", A, op("<", B, C)), "a=(b<c)"),
    (op("<", op("=", A, B), C), "a=b<c"),
    (op("&", op("&", A, B), C), "a&b&c"),
    (op("&", A, op("&", B, C)), "a&(b&c)"),
    (op("=", op("&", A, B), op("+", B, C)), "a&b=b+c"),
    (op("&", op("=", A, B), op("+", B, C)), "(a=b)&b+c"),
    (op("&", op("+", A, B), op("<", B, C)), "a+b&(b<c)"),
    (op("+", op("&", A, B), op("&", B, C)), "(a&b)+(b&c)"),
    (op("*", neg(A), B), "-a*b"),
    (neg(op("*", A, B)), "-(a*b)"),
    (neg(op("=", A, B)), "-(a=b)"),
    (op("*", A, neg(B)), "a*-b"),
    (op("-", A, neg(B)), "a--b"),
    (op("-", A, neg(neg(B))), "a---b"),
    (op("-", neg(A), neg(B)), "-a--b"),
    (op("-", A, neg(op("-", B, C))), "a--(b-c)"),
    (op("*", op("*", A, neg(B)), C), "a*-b*c"),
    (op("*", A, neg(op("*", B, C))), "a*-(b*c)"),
    (op("<", A, neg(B)), "a<-b"),
    (("sum", op("=", A, B)), "sum(a=b)"),
    (("own", "f", (op("=", A, B), neg(A))), "f(a=b;-a)"),
    (op("*", ("sum", A), ("own", "f", ())), "sum(a)*f()"),
    (("sumif", op("<", A, B), "<", op("=", A, B), neg(C)), "sumif(a<b;<;a=b;-c)"),
    (("grid", 2, 3, op("+", A, B), neg(B)), "grid(2;3;a+b;-b)"),
]

SAMPLES = LEAVES + CALLS + SIGNED


def negs(many, inner=ONE):
    """A formula within so many negs."""
    for k in range(many):
        inner = neg(inner)
    return inner


def long_sum(many):
    """A sum of so many ones, as flat as it goes: 2 * many - 1 parts."""
    if many == 1:
        return ONE
    return op("+", long_sum(many // 2), long_sum(many - many // 2))


def same(one, other):
    """Whether two things are the same, True not being 1."""
    return repr(one) == repr(other)


def some_leaf(chance, params, sheets, names):
    kinds = ["number", "text", "truth", "cell", "cell", "range", "columns", "gone", "name", "own"]
    kind = chance.choice(kinds + ["param"] * (3 if params else 0))
    sheet = chance.choice(sheets)
    stands = [chance.random() < 0.5 for k in range(4)]
    rows = sorted(chance.randint(1, 16) for k in range(2))
    columns = sorted(chance.randint(1, 8) for k in range(2))
    if kind == "number":
        return number(chance.choice([0, 1, 9, 10, 999999999]))
    if kind == "text":
        return ("value", ("text", chance.choice(["", "a", " 0", "yes"])))
    if kind == "truth":
        return ("value", ("truth", stands[0]))
    if kind == "cell":
        return ("cell", sheet, (rows[0], columns[0], stands[0], stands[1]))
    if kind == "range":
        return ("range", sheet, (rows[0], columns[0], stands[0], stands[1]),
                (rows[1], columns[1], stands[2], stands[3]))
    if kind == "columns":
        return ("columns", sheet, (columns[0], stands[0]), (columns[1], stands[1]))
    if kind == "gone":
        return ("gone",)
    if kind == "param":
        return ("param", chance.randrange(params))
    if kind == "own":
        return ("own", chance.choice(names), ())
    return ("name", chance.choice(names))


def some_formula(chance, deep, params=3, sheets=(None, "main", "sum", "a"), names=("a", "neg", "suma", "abcdef")):
    """A formula at most so deep."""
    def part():
        return some_formula(chance, deep - 1, params, sheets, names)

    kind = chance.choice(["op", "op", "op", "neg", "neg", "own", "own", "word", "leaf"])
    if deep <= 1 or kind == "leaf":
        return some_leaf(chance, params, sheets, names)
    if kind == "op":
        return op(chance.choice("+-*/&=<"), part(), part())
    if kind == "neg":
        return neg(part())
    if kind == "own":
        return ("own", chance.choice(names), tuple(part() for k in range(chance.randint(1, 3))))
    word = chance.choice(WORDS[2:])
    if word == "sumif":
        return (word, part(), chance.choice("=<"), part(), part())
    if word == "grid":
        return (word, chance.randint(1, 16), chance.randint(1, 8), part(), part())
    many = {"if": 3, "find": 3, "stack": 2}.get(word, 1)
    return (word,) + tuple(part() for k in range(many))
