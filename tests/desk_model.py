"""A desk by the words of [9b] that makes all anew of its lines, again and again; and drawn commands for both."""

from sureparts import errors
from sureparts.claims import is_claim, is_true
from sureparts.falling import falls
from sureparts.fillings import Filling, both, drawn_filling
from sureparts.maps import lack, maps_many
from sureparts.rows import form, is_row
from sureparts.steps import steps
from sureparts.sure import least_lack, sure_parts
from sureparts.tables import Table
from sureparts.webs import Web

WANTED = {"row": ["web"], "weight": ["web"], "filling": ["web"], "arrow": ["web"], "strike": ["web"], "size": ["row"],
          "load": ["weight"], "entry": ["filling"], "turn": ["web"], "copy": ["any"], "drop": ["any"], "of": ["any"],
          "show": ["any"], "same": ["any", "alike"], "form": ["row", "row"], "least": ["row", "row"], "sure": ["row"],
          "maps": ["filling", "filling"], "lack": ["filling", "filling"], "both": ["filling", "filling"],
          "falls": ["row"], "steps": ["weight", "row"], "barred": ["row", "row"], "unsplit": ["row"], "split": ["row"],
          "steady": ["weight", "row"], "tilted": ["weight", "row"], "within": ["row", "row"], "beyond": ["row", "row"]}
NEW = ["web", "row", "weight", "filling", "both", "turn", "copy"]
DEEDS = NEW + ["arrow", "strike", "size", "load", "entry", "drop", "claim", "forget"]


class Told(Exception):
    """An error of the package that a right desk raises: its class, and its attributes."""

    def __init__(self, error, /, **attributes):
        Exception.__init__(self)
        self.kind = getattr(errors, error)
        self.attributes = attributes


class Model:
    """Things as lists [sort, of, value] by names, notes as lists of words by labels; lines, and those taken back."""

    def __init__(self):
        self.things, self.notes, self.done, self.back = {}, {}, [], []

    def anew(self):
        """A model that has done the lines, and nothing else."""
        other = Model()
        for line in self.done:
            other.deed(line.split())
        other.done, other.back = list(self.done), list(self.back)
        return other

    def web(self, name):
        sort, of, value = self.things[name]
        return value if sort == "web" else self.things[of][2]

    def claim(self, label):
        """The claim as it is now, whatever is_true tells of it; None if there is none."""
        note = self.notes[label]
        wanted = (["row", "row"] if note[0] == "sure" else WANTED[note[0]])
        names = note[1:1 + len(wanted)]
        if any(name not in self.things or self.things[name][0] != sort for name, sort in zip(names, wanted)):
            return None
        if any(self.web(name) != self.web(names[0]) for name in names):
            return None
        claim = self.tuple(note)
        return claim if is_claim(claim) else None

    def tuple(self, note):
        parts = [int(part) if part.isdigit() else list(self.things[part][2]) for part in note[1:]]
        return (note[0], self.web(note[1]), *parts)

    def state(self, label):
        claim = self.claim(label)
        try:
            return "gone" if claim is None else "true" if is_true(claim) else "false"
        except errors.TooMany:
            return "gone"

    def states(self):
        return {label: self.state(label) for label in sorted(self.notes)}

    def do(self, command):
        """What the command, which is one by its words, answers; Told if it fails."""
        words = command.split()
        self.check(words)
        if words[0] == "undo":
            if not self.done:
                raise Told("NothingToUndo")
            self.back.append(self.done.pop())
            self.__dict__.update(self.anew().__dict__)
            return self.back[-1]
        if words[0] == "redo":
            if not self.back:
                raise Told("NothingToRedo")
            self.done.append(self.back.pop())
            self.__dict__.update(self.anew().__dict__)
            return self.done[-1]
        if words[0] not in DEEDS:
            return self.answer(words)
        try:
            return self.do_deed(command, words)
        except Told:
            self.__dict__.update(self.anew().__dict__)
            raise

    def do_deed(self, command, words):
        before = self.states()
        kept = set(self.notes)
        self.deed(words)
        for many, most, what in ((len(self.things), 12, "names"), (len(self.notes), 8, "labels"),
                                 (len(self.done) + 1, 200, "deeds")):
            if many > most:
                raise Told("TooMany", what=what, limit=most)
        self.done.append(command)
        self.back = []
        now = self.states()
        return ", ".join(f"{label} {now[label]}" for label in now
                         if label not in kept or now[label] != before[label]) or "-"

    def check(self, words):
        """NameTaken, LabelTaken, UnknownName, UnknownLabel, UnlikeWebs."""
        if words[0] in NEW and words[1] in self.things:
            raise Told("NameTaken", name=words[1])
        if words[0] == "claim" and words[1] in self.notes:
            raise Told("LabelTaken", label=words[1])
        key, names = words[0], words[2:] if words[0] in NEW else words[1:]
        if key == "claim":
            key, names = words[2], words[3:]
        wanted = ["row", "row"] if key == "sure" and words[0] == "claim" else WANTED.get(key, [])
        for name, sort in zip(names, wanted):
            kind = self.things.get(name, [None])[0]
            if kind is None or (sort == "alike" and kind != self.things[names[0]][0]) or (
                    sort not in ("any", "alike") and kind != sort):
                raise Told("UnknownName", value=name)
        if words[0] in ("forget", "state", "claimed") and words[1] not in self.notes:
            raise Told("UnknownLabel", value=words[1])
        webs = [self.web(name) for name, sort in zip(names, wanted) if sort in ("row", "weight", "filling")]
        if any(web != webs[0] for web in webs):
            raise Told("UnlikeWebs")

    def deed(self, words):
        getattr(self, "deed_" + words[0])(*words[1:])

    def made(self, action, *passed):
        """What the function of the package returns; its error as a Told one."""
        try:
            return action(*passed)
        except (errors.WebError, errors.StateError, errors.LimitError) as error:
            raise Told(type(error).__name__, **vars(error)) from error

    def deed_web(self, name, places, arrows):
        told = [] if arrows == "-" else [tuple(map(int, arrow.split(">"))) for arrow in arrows.split(",")]
        self.things[name] = ["web", None, self.made(Web, int(places), told)]

    def put(self, name, sort, of, numbers):
        web = self.things[of][2]
        if sort == "row" and not is_row(web, numbers):
            raise Told("InvalidRow", value=numbers)
        if sort == "weight" and (len(numbers) != web.places or any(abs(number) > 6 for number in numbers)):
            raise Told("InvalidWeight", value=numbers)
        self.things[name] = [sort, of, numbers]

    def deed_row(self, name, of, sizes):
        self.put(name, "row", of, [int(size) for size in sizes.split(",")])

    def deed_weight(self, name, of, numbers):
        self.put(name, "weight", of, [int(number) for number in numbers.split(",")])

    def deed_filling(self, name, of, sizes, many):
        row = [int(size) for size in sizes.split(",")]
        self.things[name] = ["filling", of, self.made(drawn_filling, self.things[of][2], row, int(many))]

    def rewoven(self, of, web, change):
        self.things[of] = ["web", None, web]
        for name, (sort, own, value) in list(self.things.items()):
            if own == of and sort == "filling":
                self.things[name] = [sort, of, Filling(web, value.row(), change(value.row(), value.tables()))]

    def deed_arrow(self, of, tail, head):
        web, arrow = self.things[of][2], (int(tail), int(head))
        longer = self.made(Web, web.places, web.arrows() + [arrow])
        self.rewoven(of, longer, lambda row, tables: tables + [
            Table(row[arrow[1]], row[arrow[0]], [[0] * row[arrow[0]]] * row[arrow[1]])])

    def deed_strike(self, of, at):
        web = self.things[of][2]
        if int(at) >= web.many:
            raise Told("InvalidArrow", value=int(at))
        arrows = web.arrows()
        del arrows[int(at)]
        self.rewoven(of, Web(web.places, arrows),
                     lambda row, tables: [table for other, table in enumerate(tables) if other != int(at)])

    def deed_size(self, name, place, number):
        sort, of, numbers = self.things[name]
        if int(place) >= self.web(name).places:
            raise Told("InvalidPlace", value=int(place))
        told = list(numbers)
        told[int(place)] = int(number)
        self.put(name, sort, of, told)

    deed_load = deed_size

    def deed_entry(self, name, at, spot, rest):
        filling = self.things[name][2]
        tables = filling.tables()
        if int(at) >= len(tables):
            raise Told("InvalidArrow", value=int(at))
        told = [int(part) for part in spot.split(",")]
        rows = tables[int(at)].rows()
        if len(told) != 2 or told[0] >= tables[int(at)].tall or told[1] >= tables[int(at)].wide:
            raise Told("InvalidEntry", value=told)
        if int(rest) >= 10007:
            raise Told("InvalidRest", value=int(rest))
        rows[told[0]][told[1]] = int(rest)
        tables[int(at)] = Table(tables[int(at)].tall, tables[int(at)].wide, rows)
        self.things[name][2] = Filling(filling.web(), filling.row(), tables)

    def deed_both(self, name, first, second):
        value = self.made(both, self.things[first][2], self.things[second][2])
        self.things[name] = ["filling", self.things[first][1], value]

    def deed_turn(self, name, of):
        web = self.things[of][2]
        self.things[name] = ["web", None, Web(web.places, [arrow[::-1] for arrow in web.arrows()])]

    def deed_copy(self, name, other):
        self.things[name] = list(self.things[other])

    def deed_drop(self, name):
        for other in sorted(self.things):
            if self.things[other][1] == name:
                raise Told("IsUsed", name=other)
        del self.things[name]

    def deed_claim(self, label, *note):
        told = self.tuple(note)
        if not is_claim(told):
            raise Told("InvalidClaim", value=told)
        self.notes[label] = note

    def deed_forget(self, label):
        del self.notes[label]

    def answer(self, words):
        word, names = words[0], words[1:]
        if word == "names":
            return " ".join(sorted(self.things)) or "-"
        if word == "states":
            return ", ".join(f"{label} {state}" for label, state in self.states().items()) or "-"
        if word == "state":
            return self.state(names[0])
        if word == "claimed":
            return " ".join(self.notes[names[0]])
        if word == "of":
            return self.things[names[0]][1] or "-"
        if word == "show":
            return self.shown(names[0])
        values = [self.things[name][2] for name in names]
        web = self.web(names[0])
        if word == "same":
            return "yes" if web == self.web(names[1]) and values[0] == values[1] else "no"
        if word in ("maps", "lack"):
            return str(self.made({"maps": maps_many, "lack": lack}[word], *values))
        action = {"form": form, "least": least_lack, "sure": sure_parts, "falls": falls, "steps": steps}[word]
        told = self.made(action, web, *values)
        if isinstance(told, int):
            return str(told)
        return "/".join(",".join(map(str, row)) for row in told) or "-"

    def shown(self, name):
        sort, _, value = self.things[name]
        if sort == "web":
            return f"{value.places} " + (",".join(f"{tail}>{head}" for tail, head in value.arrows()) or "-")
        if sort != "filling":
            return ",".join(map(str, value))
        told = [",".join(map(str, value.row()))]
        for table in value.tables():
            rows = [",".join(map(str, row)) for row in table.rows()]
            told.append("/".join(rows) if "".join(rows) else "-")
        return " ".join(told)


START = ["web w 2 0>1,0>1", "row a w 1,1", "row b w 2,2", "weight c w 1,-1", "filling d w 1,1 5", "claim p sure a b",
         "claim q unsplit b"]


def drawn_command(source, model):
    """A command by its words, mostly one whose names are right at the model's desk."""
    while True:
        command = any_command(source, model)
        try:
            model.check(command.split())
            return command
        except Told:
            if source.random() < 0.1:
                return command


def any_command(source, model):
    def name(sort=None):
        kept = [name for name in model.things if sort is None or model.things[name][0] == sort]
        return source.choice(kept) if kept and source.random() < 0.95 else source.choice("abcdefgw")

    def new():
        free = [name for name in "abcdefghijkw" if name not in model.things]
        return source.choice(free) if free and source.random() < 0.95 else source.choice("abcdefghijkwm")

    def label(fresh):
        known = [label for label in "pqrs" if (label in model.notes) != fresh]
        return source.choice(known) if known and source.random() < 0.95 else source.choice("pqrs")

    def places(of):
        web = model.things.get(of)
        return web[2].places if web and web[0] == "web" else 2

    def numbers(of, least, most):
        many = places(of) + source.choice([0] * 12 + [1])
        return ",".join(str(source.randint(least, most)) for _ in range(many))

    def small(most):
        return source.choice(list(range(most + 1)) * 3 + [most + 1])

    word = source.choice(DEEDS + ["row", "row", "weight", "filling", "claim", "claim", "claim", "size", "size", "undo",
                                  "undo", "redo", "states", "state", "names", "show", "show", "same", "least", "lack",
                                  "maps", "of", "claimed", "sure", "falls", "steps", "form"])
    of = name("web")
    if word == "claim":
        kind = source.choice(["sure", "barred", "unsplit", "split", "steady", "tilted", "within", "beyond"])
        wanted = ["row", "row"] if kind == "sure" else WANTED[kind]
        told = [name(sort) for sort in wanted] + [str(source.randint(0, 2))] * (kind in ("within", "beyond"))
        return " ".join(["claim", label(True), kind] + told)
    if word == "web":
        many = source.randint(1, 3)
        arrows = [f"{source.randint(0, many - 1)}>{source.randint(0, many)}" for _ in range(source.randint(0, 2))]
        return f"web {new()} {source.choice([many] * 9 + [0, 14])} " + (",".join(arrows) or "-")
    told = {"row": lambda: f"{new()} {of} {numbers(of, 0, source.choice([2, 2, 2, 7]))}",
            "weight": lambda: f"{new()} {of} {numbers(of, -1, source.choice([1, 1, 7]))}",
            "filling": lambda: f"{new()} {of} {numbers(of, 0, 2)} {source.choice([0, 5, 10006, 10007])}",
            "arrow": lambda: f"{of} {small(places(of) - 1)} {small(places(of) - 1)}",
            "strike": lambda: f"{of} {source.randint(0, 2)}",
            "size": lambda: f"{name('row')} {source.randint(0, 2)} {source.choice([0, 1, 1, 2, 2, 3, 7])}",
            "load": lambda: f"{name('weight')} {source.randint(0, 2)} {source.choice([0, 1, -1, 6, -7])}",
            "entry": lambda: f"{name('filling')} {source.randint(0, 2)} {source.choice(['0,0', '0,1', '1,0', '1'])} "
                             f"{source.choice([0, 3, 10006, 10007])}",
            "both": lambda: f"{new()} {name('filling')} {name('filling')}", "turn": lambda: f"{new()} {of}",
            "copy": lambda: f"{new()} {name()}", "drop": name, "forget": lambda: label(False),
            "state": lambda: label(False), "claimed": lambda: label(False), "of": name, "show": name,
            "same": lambda: f"{name()} {name()}", "undo": str, "redo": str, "states": str, "names": str}
    if word in told:
        return f"{word} {told[word]()}".strip()
    return " ".join([word] + [name(sort) for sort in WANTED[word]])
