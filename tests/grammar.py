"""The grammar of the texts of formulas, written out rule by rule, and Earley's way to hold a text against it.

It tells where a text stops being the beginning of one that is read, without a reader of its own: so it can be held
against the one of the program. A kind of text is a tuple; a sign is a text of the signs that may stand there.
"""

from samples import WORDS

SMALL = "abcdefghijklmnopqrstuvwxyz"
FIGURES = "0123456789"
COUNTS = {"if": 3, "sum": 1, "count": 1, "least": 1, "most": 1, "find": 3, "turn": 1, "stack": 2, "outer": 1}


def parts(many):
    """So many parts with `;` between."""
    row = [("part",)]
    for k in range(many - 1):
        row = row + [";", ("part",)]
    return row


def runs(kind, signs, most):
    """Rules of runs of one to `most` of some signs; (kind, n) being a run of one to n."""
    rules = {}
    for many in range(1, most + 1):
        rules[(kind, many)] = [[signs]] + ([[signs, (kind, many - 1)]] if many > 1 else [])
    return rules


def name_rules():
    """Names of up to six letters that are no words; ("name", begun) being what may stand behind a beginning."""
    begun = {word[:many] for word in WORDS for many in range(len(word) + 1)}
    rules = {}
    for start in begun:
        rows = []
        for letter in SMALL:
            if start + letter not in WORDS:
                rows.append([letter])
            if len(start) < 5:
                if start + letter in begun:
                    rows.append([letter, ("name", start + letter)])
                else:
                    rows.append([letter, ("letters", 5 - len(start))])
        rules[("name", start)] = rows
    return rules


def reference_rules():
    rules = {("reference",): [[("column", k), ("behind", k)] for k in range(1, 9)]}
    for column in range(1, 9):
        letter = "ABCDEFGH"[column - 1]
        rules[("column", column)] = [[letter], ["$", letter]]
        rules[("column from", column)] = [[("column", k)] for k in range(column, 9)]
        rules[("behind", column)] = [[":", ("column from", column)]]
        for row in range(1, 17):
            rules[("behind", column)].append([("row", row)])
            rules[("behind", column)].append([("row", row), ":", ("column from", column), ("row from", row)])
    for row in range(1, 17):
        rules[("row", row)] = [list(str(row)), ["$"] + list(str(row))]
        rules[("row from", row)] = [[("row", k)] for k in range(row, 17)]
    return rules


def word_rules():
    rows = [list("yes"), list("no")]
    for word, many in COUNTS.items():
        rows.append(list(word) + ["("] + parts(many) + [")"])
    rows.append(list("sumif(") + parts(1) + [";", "=<", ";"] + parts(2) + [")"])
    for high in range(1, 17):
        for wide in range(1, 9):
            rows.append(list("grid(" + str(high) + ";" + str(wide) + ";") + parts(2) + [")"])
    return rows


def all_rules():
    rules = {}
    rules.update(runs("letters", SMALL, 6))
    rules.update(runs("figures", FIGURES, 8))
    rules.update(runs("signs", SMALL + FIGURES + " ", 20))
    rules.update(name_rules())
    rules.update(reference_rules())
    rules[("part",)] = [[("piece",)], [("part",), "+-*/&=<", ("piece",)]]
    rules[("piece",)] = word_rules() + [
        ["-", ("piece",)], ["(", ("part",), ")"], ["#"], ["?", "012"],
        ["0"], ["123456789"], ["123456789", ("figures", 8)],
        ['"', '"'], ['"', ("signs", 20), '"'],
        [("reference",)], [("letters", 6), "!", ("reference",)],
        [("name", "")], [("name", ""), "(", ")"],
    ] + [[("name", ""), "("] + parts(many) + [")"] for many in (1, 2, 3)]
    return {kind: [tuple(row) for row in rows] for kind, rows in rules.items()}


RULES = all_rules()


def spread(columns, begun):
    """All items at a place that follow from those begun there; an item is (kind, rule, how far, from where)."""
    here = len(columns)
    waiting = list(begun)
    items = dict.fromkeys(waiting)
    while waiting:
        kind, rule, far, start = waiting.pop()
        if far == len(rule):
            # No rule is without signs, so what is done here was begun further ahead.
            more = [(k, r, f + 1, s) for k, r, f, s in columns[start] if f < len(r) and r[f] == kind]
        elif isinstance(rule[far], tuple):
            more = [(rule[far], row, 0, here) for row in RULES[rule[far]]]
        else:
            more = []
        for item in more:
            if item not in items:
                items[item] = None
                waiting.append(item)
    return items


def columns_of(text):
    """The items at each place of a text, from its beginning to where no text goes on."""
    columns = [spread([], [(("part",), row, 0, 0) for row in RULES[("part",)]])]
    for at, sign in enumerate(text):
        begun = [(kind, rule, far + 1, start) for kind, rule, far, start in columns[at]
                 if far < len(rule) and isinstance(rule[far], str) and sign in rule[far]]
        if not begun:
            return columns
        columns.append(spread(columns, begun))
    return columns


def stops_at(text):
    """None for a text that is read, bounds aside; else where it stops being the beginning of one."""
    columns = columns_of(text)
    if len(columns) <= len(text):
        return len(columns) - 1
    whole = [item for item in columns[-1] if item[0] == ("part",) and item[2] == len(item[1]) and item[3] == 0]
    return None if whole else len(text)


def signs_behind(text):
    """For each beginning of a text that is read, the shortest first, all signs with which a text goes on there."""
    told = []
    for column in columns_of(text):
        told.append({sign for kind, rule, far, start in column if far < len(rule) and isinstance(rule[far], str)
                     for sign in rule[far]})
    return told
