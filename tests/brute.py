"""What the tests ask of the document's definitions, told as slowly and plainly as they stand there."""

import random
from itertools import product

from outpressed.blocks import press
from outpressed.buildmachines import machine_of_build
from outpressed.builds import Build
from outpressed.lots import Lot
from outpressed.machines import Machine
from outpressed.readbacks import comes_back
from outpressed.rounds import Round
from outpressed.sameness import least_machine


def texts_of(alphabet, length):
    """All texts with this length, in alphabetical order."""
    return ["".join(letters) for letters in product(alphabet, repeat=length)]


def texts_up_to(alphabet, length):
    """All texts with at most this length, in the order of texts."""
    return [text for k in range(length + 1) for text in texts_of(alphabet, k)]


def in_order(texts):
    """The texts in the order of texts."""
    return sorted(texts, key=lambda text: (len(text), text))


def cut_slowly(text):
    """The pieces, piece 0 included, and the tail of a text, by point 7."""
    pieces = [""]
    rest = text
    while True:
        beginnings = [rest[:k] for k in range(len(rest) + 1) if rest[:k] not in pieces]
        if not beginnings:
            return pieces, rest
        pieces.append(beginnings[0])
        rest = rest[len(beginnings[0]):]


def run_slowly(machine, text, start=0):
    """The bits and the last standing, by point 15."""
    bits, standing = "", start
    for letter in text:
        standing, word = machine.rules[standing][machine.alphabet.index(letter)]
        bits += word
    return bits, standing


def random_rules(source, size, standings, longest):
    """Rules with words of at most so many bits."""
    return [[(source.randrange(standings),
              "".join(source.choice("01") for _ in range(source.randint(0, longest))))
             for _ in range(size)] for _ in range(standings)]


def random_machines(seed, many, *, alphabets=("a", "ab", "abc"), standings=3, longest=2):
    """Machines of all sorts, the same ones at each run."""
    source = random.Random(seed)
    machines = []
    for _ in range(many):
        alphabet = source.choice(alphabets)
        machines.append(Machine(alphabet, random_rules(source, len(alphabet),
                                                       source.randint(1, standings), longest)))
    return machines


def are_tuples(value):
    """Whether there is no list at any level."""
    if isinstance(value, tuple):
        return all(are_tuples(item) for item in value)
    return not isinstance(value, (list, dict, set))


# The machine of the document's examples.
EXAMPLE = [[(1, ""), (0, "1")], [(0, "00"), (0, "01")]]


def common(one, two):
    """The longest common beginning of two strings."""
    k = 0
    while k < min(len(one), len(two)) and one[k] == two[k]:
        k += 1
    return one[:k]


def compared(one, two):
    """The leads of two runs that have written these bits, or None, by point 24."""
    shared = len(common(one, two))
    if shared < len(one) and shared < len(two):
        return None
    return one[shared:], two[shared:]


def reached_slowly(machine):
    """The reached standings."""
    found = {0}
    while True:
        further = {following for standing in found for following, _ in machine.rules[standing]} - found
        if not further:
            return sorted(found)
        found |= further


def starts_slowly(machine):
    """All (standing, word, other word, starting pair or None), by point 24."""
    found = []
    for standing in reached_slowly(machine):
        rules = machine.rules[standing]
        for j in range(len(rules)):
            for i in range(j):
                leads = compared(rules[i][1], rules[j][1])
                pair = None if leads is None else (rules[i][0], rules[j][0]) + leads
                found.append((standing, rules[i][1], rules[j][1], pair))
    return found


def readings_slowly(machine, pair):
    """All (side, letter, bits, other bits, next pair or None), by point 24."""
    found = []
    for side in (0, 1):
        for k, letter in enumerate(machine.alphabet):
            if pair[2 + side] != "":
                continue
            standings, strings = list(pair[:2]), list(pair[2:])
            following, word = machine.rules[standings[side]][k]
            standings[side] = following
            strings[side] += word
            leads = compared(*strings)
            found.append((side, letter, strings[0], strings[1],
                          None if leads is None else tuple(standings) + leads))
    return found


def table_slowly(machine):
    """All pairs that are reached from a starting pair."""
    table = {pair for _, _, _, pair in starts_slowly(machine)} - {None}
    while True:
        further = {after for pair in table for *_, after in readings_slowly(machine, pair)} - {None} - table
        if not further:
            return table
        table |= further


def room_slowly(machine):
    """The number of point 25."""
    reached = reached_slowly(machine)
    words = {word for standing in reached for _, word in machine.rules[standing]}
    ends = {word[k:] for word in words for k in range(len(word))}
    return len(reached) ** 2 * (2 * len(ends) + 1)


def is_twin_pair(machine, one, two):
    """Whether two texts are twins, by point 22."""
    return one != two and run_slowly(machine, one) == run_slowly(machine, two)


def fewest_slowly(machine, longest, lot=None):
    """The fewest letters together of twins, in the lot, with at most so many letters each, or None."""
    found = None
    seen = {}
    for text in texts_up_to(machine.alphabet, longest):
        if lot is not None and text not in lot:
            continue
        end = run_slowly(machine, text)
        if end in seen:
            letters = len(seen[end]) + len(text)
            found = letters if found is None else min(found, letters)
        seen.setdefault(end, text)
    return found


def coming_back(seed, many, **more):
    """Machines whose texts come back, with at most so many of them."""
    found = []
    for machine in random_machines(seed, 60 * many, **more):
        if comes_back(machine).holds and machine not in found:
            found.append(machine)
    return found[:many]


def shared_total_slowly(count, share):
    """The least number of bits of so many strings, none of them used more than share times."""
    total, length = 0, 0
    while count > 0:
        here = min(count, share * 2 ** length)
        total += here * length
        count -= here
        length += 1
    return total


def random_text(source, alphabet, length):
    """A text with this length."""
    return "".join(source.choice(alphabet) for _ in range(length))


def random_round(source, alphabet, longest):
    """An endless text with at most so many letters in its head and in its ring."""
    return Round(alphabet, random_text(source, alphabet, source.randint(0, longest)),
                 random_text(source, alphabet, source.randint(1, longest)))


def random_rows(source, size, standings):
    """Rows of a lot."""
    return [(source.random() < 0.4, [source.randrange(standings) for _ in range(size)]) for _ in range(standings)]


def random_lots(seed, many, *, alphabets=("a", "ab", "abc"), standings=4):
    """Lots of all sorts, the same ones at each run."""
    source = random.Random(seed)
    lots = []
    for _ in range(many):
        alphabet = source.choice(alphabets)
        lots.append(Lot(alphabet, random_rows(source, len(alphabet), source.randint(1, standings))))
    return lots


def place_in_rows(alphabet, rows, text):
    """The last standing of a lot, by point 46."""
    standing = 0
    for letter in text:
        standing = rows[standing][1][alphabet.index(letter)]
    return standing


def is_in_rows(alphabet, rows, text):
    """Whether the text is in the lot, by point 46."""
    return rows[place_in_rows(alphabet, rows, text)][0]


def least_heaviest(reached, count):
    """The least number m for which reached * (2 ** (m + 1) - 1) is at least the count."""
    bits = 0
    while reached * (2 ** (bits + 1) - 1) < count:
        bits += 1
    return bits


def late_rules(letters, alphabet="ab"):
    """A machine that holds back so many letters, and then writes the index of the oldest one as a bit."""
    texts = texts_up_to(alphabet, letters)
    rules = []
    for text in texts:
        row = []
        for letter in alphabet:
            word = str(alphabet.index(text[0])) if len(text) == letters else ""
            row.append((texts.index((text + letter)[-letters:]), word))
        rules.append(row)
    return rules


def lot_places_slowly(machine, lot):
    """All reached lot places."""
    found = {(0, 0)}
    while True:
        further = {(machine.rules[p][k][0], lot.rows[a][1][k]) for p, a in found
                   for k in range(len(lot.alphabet))} - found
        if not further:
            return sorted(found)
        found |= further


def pairs_slowly(one, two):
    """All pairs of last standings of two machines."""
    found = {(0, 0)}
    while True:
        further = {(one.rules[p][k][0], two.rules[q][k][0]) for p, q in found
                   for k in range(len(one.alphabet))} - found
        if not further:
            return sorted(found)
        found |= further


def raised(kind, call, *given, **named):
    """The fields of the error of just this kind that the call raises."""
    try:
        answer = call(*given, **named)
    except kind as error:
        if type(error) is not kind:
            raise
        return tuple(vars(error).values())
    raise AssertionError(f"{kind.__name__} was not raised, but {answer!r} returned")


# Builds, as strings.

def expansions(symbol):
    """What may stand for a symbol of the grammar of point 52: sequences of characters and symbols."""
    kind, more = symbol
    if kind == "build":
        return [[("step", more), ("rest", None)]]
    if kind == "rest":
        return [[], [">", ("step", "01"), ("rest", None)]]
    if kind == "word":
        return [["-"], ["0", ("bits", 11)], ["1", ("bits", 11)]]
    if kind == "bits":
        return [[]] + ([["0", ("bits", more - 1)], ["1", ("bits", more - 1)]] if more else [])
    inner = ("build", more)
    found = [list("plain"), [*"code(", *in_brackets(("word", None), len(more))], [*"late(", inner, ")"],
             [*"after(", *in_brackets(inner, len(more))]]
    found += [[*"turns(", *in_brackets(inner, many)] for many in (1, 2, 3, 4)]
    return found + [[*"blocks(", digit, ")"] for digit in "123456789"]


def in_brackets(symbol, many):
    return [symbol] + [",", symbol] * (many - 1) + [")"]


def bad_index_slowly(alphabet, text):
    """The index of BadBuild, or None, by point 52: all derivations are followed side by side."""
    stacks = {(("build", alphabet),)}
    for index, letter in enumerate(text):
        later, todo = set(), list(stacks)
        while todo:
            first, *rest = todo.pop() or [None]
            if isinstance(first, tuple):
                todo += [tuple(symbols) + tuple(rest) for symbols in expansions(first)]
            elif first == letter:
                later.add(tuple(rest))
        if not later:
            return index
        stacks = later
    complete = any(all(symbol[0] in ("rest", "bits") for symbol in stack) for stack in stacks)
    return None if complete else len(text)


def split_outside(text, sign):
    """The parts of the text between signs that stand in no brackets."""
    parts, depth = [""], 0
    for letter in text:
        depth += (letter == "(") - (letter == ")")
        if letter == sign and depth == 0:
            parts.append("")
        else:
            parts[-1] += letter
    return parts


def step_parts(step):
    """The name of a step and what stands between its brackets, part by part."""
    name, _, inner = step.partition("(")
    return name, split_outside(inner[:-1], ",")


def plain_slowly(alphabet, letter):
    return format(alphabet.index(letter), "b").zfill(max(1, (len(alphabet) - 1).bit_length()))


def given_to_builds(name, many, alphabet, text):
    """For each of the builds of turns or after the indexes of the letters that it is given."""
    taken = [[] for _ in range(many)]
    for index in range(len(text)):
        if name == "turns":
            taken[index % many].append(index)
        else:
            taken[alphabet.index(text[index - 1]) if index else 0].append(index)
    return taken


def words_slowly(build, alphabet, text):
    """The words that a build writes for the letters of the text, by point 53."""
    first, *further = split_outside(build, ">")
    words = step_words_slowly(first, alphabet, text)
    for step in further:
        written = iter(step_words_slowly(step, "01", "".join(words)))
        words = ["".join(next(written) for _ in word) for word in words]
    return words


def step_words_slowly(step, alphabet, text):
    name, parts = step_parts(step)
    if name == "plain":
        return [plain_slowly(alphabet, letter) for letter in text]
    if name == "code":
        return [parts[alphabet.index(letter)].replace("-", "") for letter in text]
    if name == "blocks":
        length = int(parts[0])
        return [press(alphabet, text[end - length:end]) if end % length == 0 else ""
                for end in range(1, len(text) + 1)]
    if name == "late":
        return ([""] + words_slowly(parts[0], alphabet, text[:-1]))[:len(text)]
    words = [None] * len(text)
    for build, taken in zip(parts, given_to_builds(name, len(parts), alphabet, text)):
        for index, word in zip(taken, words_slowly(build, alphabet, "".join(text[index] for index in taken))):
            words[index] = word
    return words


def memory_slowly(build, alphabet, text):
    """All that the build is in behind the text, by point 53."""
    found = []
    for place, step in enumerate(split_outside(build, ">")):
        if place > 0:
            alphabet = "01"
        name, parts = step_parts(step)
        if name == "blocks":
            found.append(text[len(text) - len(text) % int(parts[0]):])
        elif name == "late":
            found.append((text[-1:], memory_slowly(parts[0], alphabet, text[:-1])))
        elif name in ("turns", "after"):
            turn = len(text) % len(parts) if name == "turns" else alphabet.index(text[-1]) if text else 0
            found.append((turn, [memory_slowly(inner, alphabet, "".join(text[index] for index in taken))
                                 for inner, taken in zip(parts, given_to_builds(name, len(parts), alphabet, text))]))
        text = "".join(step_words_slowly(step, alphabet, text))
    return found


def random_word(source, longest=3):
    return "".join(source.choice("01") for _ in range(source.randint(0, longest))) or "-"


def random_build(source, alphabet, depth, steps=3):
    """A build as a string, with at most so many brackets within one another."""
    found = []
    for place in range(source.choice(range(1, steps + 1))):
        inner = "01" if place else alphabet
        kind = source.choice(["plain", "code", "code", "blocks"] + (["late", "turns", "after"] if depth > 1 else []))
        if depth < 1:
            kind = "plain"
        many = {"code": len(inner), "blocks": 1, "late": 1, "turns": source.randint(1, 4), "after": len(inner)}
        if kind == "plain":
            found.append(kind)
            continue
        parts = []
        for _ in range(many[kind]):
            if kind == "code":
                parts.append(random_word(source))
            elif kind == "blocks":
                parts.append(str(source.choice((1, 1, 2, 2, 3))))
            else:
                parts.append(random_build(source, inner, depth - 1, max(1, steps - 1)))
        found.append(f"{kind}({','.join(parts)})")
    return ">".join(found)


# Grown texts, as rules.

SMALL = ["a", "b", (0, 1), (2, 2)]
# 2 ** 103 letters are a little more than 10 ** 31, so this text has 2 ** 102.
LONG = ["a", "b", (0, 1)] + [(k, k) for k in range(2, 103)]


def grown_slowly(rules):
    """The texts of all rules."""
    texts = []
    for rule in rules:
        texts.append(rule if isinstance(rule, str) else texts[rule[0]] + texts[rule[1]])
    return texts


def random_growth(source, alphabet, many, longest):
    """Rules of all sorts, with texts of at most so many letters."""
    rules = [source.choice(alphabet)]
    while len(rules) < many:
        rule = source.choice([source.choice(alphabet)] + [(source.randrange(len(rules)), source.randrange(len(rules)))
                                                          for _ in range(3)])
        if len(grown_slowly(rules + [rule])[-1]) <= longest:
            rules.append(rule)
    return rules


# Workshops.

GOOD_NAMES = ("a", "z9", "abcdefghijkl", "a23456789012", "q", "plain")
DEEDS = ("keep", "make", "change", "lead_on", "shorten", "rename", "drop", "undo", "redo")


def is_name_slowly(name):
    letters, digits = "abcdefghijklmnopqrstuvwxyz", "0123456789"
    return 1 <= len(name) <= 12 and all(sign in letters + digits for sign in name) and name[0] in letters


class SlowWorkshop:
    """A workshop as point 62 tells it: every deed gives the error, as its name and fields, or None."""

    def __init__(self, alphabet):
        self.alphabet, self.machines, self.done, self.taken = alphabet, {}, [], []

    def new(self, name):
        if not is_name_slowly(name):
            return "BadName", name
        return ("NameTaken", name) if name in self.machines else None

    def do(self, machines):
        self.done.append(self.machines)
        self.machines, self.taken = machines, []

    def keep(self, name, machine):
        wrong = self.new(name)
        if wrong is None and machine.alphabet != self.alphabet:
            wrong = "AlphabetsDiffer", self.alphabet, machine.alphabet
        if wrong is None:
            self.do({**self.machines, name: machine})
        return wrong

    def make(self, name, text):
        wrong = self.new(name)
        if wrong is None and bad_index_slowly(self.alphabet, text) is not None:
            wrong = "BadBuild", bad_index_slowly(self.alphabet, text)
        if wrong is None:
            self.do({**self.machines, name: machine_of_build(Build(self.alphabet, text))})
        return wrong

    def change(self, name, standing, letter, following, word):
        if name not in self.machines:
            return "NoName", name
        rules = [list(row) for row in self.machines[name].rules]
        if standing not in range(len(rules)):
            return "BadStanding", standing
        if letter not in list(self.alphabet):
            return "BadLetter", 0
        if type(following) is not int or following not in range(len(rules)) or type(word) is not str \
                or set(word) - set("01"):
            return "BadRule", standing, letter
        rules[standing][self.alphabet.index(letter)] = following, word
        self.do({**self.machines, name: Machine(self.alphabet, rules)})

    def lead_on(self, name, text, other):
        if name not in self.machines:
            return "NoName", name
        wrong = self.new(other)
        if wrong is None and bad_index_slowly("01", text) is not None:
            wrong = "BadBuild", bad_index_slowly("01", text)
        if wrong is None:
            self.do({**self.machines, other: self.machines[name] >> machine_of_build(Build("01", text))})
        return wrong

    def shorten(self, name):
        if name not in self.machines:
            return "NoName", name
        self.do({**self.machines, name: least_machine(self.machines[name])})

    def rename(self, name, other):
        if name not in self.machines:
            return "NoName", name
        wrong = self.new(other)
        if wrong is None:
            self.do({other if told == name else told: machine for told, machine in self.machines.items()})
        return wrong

    def drop(self, name):
        if name not in self.machines:
            return "NoName", name
        self.do({told: machine for told, machine in self.machines.items() if told != name})

    def undo(self):
        if not self.done:
            return ("NothingToUndo",)
        self.taken.append(self.machines)
        self.machines = self.done.pop()

    def redo(self):
        if not self.taken:
            return ("NothingToRedo",)
        self.done.append(self.machines)
        self.machines = self.taken.pop()


def random_deed(source, alphabet, names):
    """A deed of any sort, as a tuple of its name and its arguments, mostly a good one."""
    name, other = [source.choice(names + names + ("?", "9", "ghost")) for _ in range(2)]
    word = source.choice(DEEDS + ("make", "make", "undo", "redo", "change"))
    if word == "keep":
        return word, name, source.choice([Machine.plain(alphabet), Machine.plain("0z")])
    if word == "make":
        return word, name, source.choice([random_build(source, alphabet, 2, 2), "late(plain)", "turns(plain,plain)",
                                          "code(0,", "plain>", "late(plain"])
    if word == "change":
        return (word, name, source.choice((0, 0, 0, 1, 5, -1, 10 ** 30)), source.choice(alphabet + alphabet + "? "),
                source.choice((0, 0, 0, 1, 7, -1, True, None, "0")), source.choice(("", "0", "11", "2", None, True, 0)))
    if word == "lead_on":
        return word, name, source.choice(["late(plain)", "code(-,1)", "plain", "plan", "late(plain"]), other
    if word == "rename":
        return word, name, other
    return (word,) + ((name,) if word in ("shorten", "drop") else ())


def fits(model, deed):
    """Whether the deed keeps to the bounds: not more than 60 standings and 20 machines behind it."""
    other = SlowWorkshop(model.alphabet)
    other.machines, other.done, other.taken = dict(model.machines), list(model.done), list(model.taken)
    getattr(other, deed[0])(*deed[1:])
    return len(other.machines) <= 20 and all(machine.standings <= 60 for machine in other.machines.values())
