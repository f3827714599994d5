"""The interface as it is listed, and those rules of the language that a short look at the code can tell."""

import ast
import importlib
import inspect
import pathlib
import unittest

PACKAGE = pathlib.Path(__file__).resolve().parent.parent / "oldaddress"

INTERFACE = {
    "lands": "is_deed(land, thing)",
    "histories": "deeds_now(history, numbers)",
    "pieces": """track(history, piece); families(history); are_twins(history, one, other);
        holder_apart(history, one, other)""",
    "flows": """went(history, address, moment, later=None); flow(history, moment, later=None);
        known_as(history, address, moment=None); known_wholly(history, address, moment=None);
        scaled(history, pieces, days)""",
    "holders": """holders(history, life, moment=None); is_holder(history, thing);
        living(history, holder, moment=None); shares(history, holder, moment=None);
        due(history, holder, policy, moment=None); piece_due(history, holder, moment=None)""",
    "answers": """dues_of(history, address, policy, life, moment=None);
        learned_when(history, address, due, policy, life, moment=None)""",
    "likeness": """are_alike(history, one, other); deeds_apart(history, one, other);
        alike_lots(history, life, moment=None)""",
    "promises": """is_promise(thing); table(history, promise, moment=None); keeps(history, promise, moment=None);
        is_table(history, promise, thing, moment=None); clash(history, promise, moment=None);
        is_clash(history, promise, thing, moment=None); misled(history, promise, thing, moment=None);
        mended(history, promise, thing, moment=None)""",
    "lives": """greatest_life(history, policy, width, moment=None); least_width(history, policy, life, moment=None);
        front(history, policy, moment=None); kept(history, promise); first_broken(history, promise)""",
    "viewing": """seen_table(history, promise, view, moment=None);
        seen_clash(history, promise, view, moment=None)""",
    "marks": """is_good(history, promise, address, first, last, moment=None);
        are_marks(history, promise, address, thing, moment=None); lone_holders(history, promise, moment=None);
        least_marks(history, promise, address, moment=None); bad_stretches(history, promise, address, moment=None);
        are_bad(history, promise, address, thing, moment=None); marking(history, promise, moment=None);
        marked_table(history, promise, marks, moment=None)""",
    "lasting": """lasting_marks(history, address, moment=None); lasting_lots(history, address, moment=None);
        at_once(history, address); least_turn(history, life); turn_clash(history, life, k)""",
    "states": """places(history, holder, moment=None); state(history, life); is_state(land, life, thing);
        next_state(land, life, state, deed); table_by(land, promise, state)""",
    "statelots": """all_states(land, life); parting(one, other, promise); alike_lot(one, other, promise);
        is_alike_lot(one, other, promise, thing); state_kinds(land, promise)""",
    "doing": """is_let(history, promise, deed); bar(history, promise, deed); let_deeds(history, promise, numbers);
        waits_for(history, promise, deed); staying(history, promise, deed); free_again(history, promise)""",
    "soonest": """soonest(history, promise, deeds); stuck_at(history, promise, deeds);
        remedies(history, policy, life, deed)""",
    "surewords": "sure_words(land, promise); breaking(land, promise, word)",
    "disciplines": """obeys(history, discipline); breaking_way(land, discipline, promise);
        safe_lot(land, discipline, promise); is_safe_lot(land, discipline, promise, thing); careful(promise);
        too_strict(land, discipline, promise)""",
    "asks": """serving(history, deed, promise, within); too_much(history, asks, promise, within);
        served_lot(history, asks, promise, within); is_served_lot(history, asks, promise, within, thing);
        least_within(history, asks, promise)""",
    "plans": """is_plan(history, wish, promise, thing); shortest_plan(history, wish, promise);
        how_many(history, wish, promise); cheapest_plan(history, wish, promise, prices);
        reached(history, promise); closed_lot(history, wish, promise);
        is_closed_lot(history, wish, promise, thing)""",
    "forwards": "follow(land, book, address); ring_of(land, book, address)",
    "lazybooks": """lazy_book(history, moment=None); how_led(history, holder, moment=None);
        first_misled(history, life, moment=None); cause(history, holder, moment=None);
        right_book(history, life, moment=None)""",
    "neededentries": """needed(history, life, moment=None); who_needs(history, address, life, moment=None);
        needed_days(history, address, life)""",
    "bookhistories": "book_history(land, book)",
    "walks": """evening(history, day); walk(history, address, day, pace); lost_days(history, holder, pace, life);
        first_lost(history, pace, life)""",
    "gentle": """is_gentle(history, rest, moves, idle); idle_needed(life, pace, rest, moves);
        lost_history(life, pace, rest, moves, idle)""",
    "inway": "lots_in_way(history, promise); in_way(history, deed, promise)",
    "letters": """holds_with(history, promise, letters); clash_with(history, promise, letters);
        letters_cost(history, letters, prices, stamp); what_may_stay(history, address, promise, prices, stamp);
        least_letters(history, promise, prices, stamp); cheapest(history, deed, promise, prices, stamp, rent)""",
    "stays": """is_giving(stays, many, thing); giving(stays, many); full_day(stays, many); least_addresses(stays);
        moved(stays, index, day); with_life(stays, life); needs_by_life(stays); life_for(stays, many);
        stays_of(history, life)""",
    "latestays": """late_begins(stays, many); latest(stays, many); in_the_way(stays, many, index);
        addresses_for(stays, late)""",
    "markedstays": """is_marked_giving(stays, many, marks, thing); marked_giving(stays, many, marks);
        marks_for(stays, many)""",
    "roles": """role_due(history, address, moment=None); both_table(history, policy, life, moment=None);
        both_clash(history, policy, life, moment=None); keeps_both(history, deed, policy, life);
        which(history, address, policy, seen); barred(history, address, policy, seen);
        wanting_two(history, policy, life); first_wanting(history, policy, life)""",
    "joined": """crowded(histories); joint_table(histories, promise); joint_clash(histories, promise);
        joining(one, other, promise); is_joining(one, other, promise, thing); no_room(one, other)""",
    "partings": """finest_parting(history, life, moment=None); tie(history, life, one, other, moment=None);
        is_tie(history, life, one, other, thing, moment=None); apart_in(history, life, one, other)""",
    "callers": """forwarder_fault(history, promise, forwarder, moment=None);
        break_forwarder(history, promise, forwarder, moment=None); marker_words(history, marker);
        marker_fault(history, promise, marker); marker_lasts(history, marker)""",
    "writers": """writer_fault(history, promise, writer); shortest_fault(land, promise, writer, numbers, most);
        keeper_fault(land, promise, keeper, numbers, most)""",
    "happened": """fits(history, promise, looks); first_fit(land, promise, looks); odd_look(land, promise, looks);
        count_fits(land, promise, looks); possible(land, promise, looks); sure_deeds(land, promise, looks);
        sure_counts(land, promise, looks)""",
    "settled": "possible_kinds(land, promise, looks); own_deeds(land, promise, looks, most)",
    "texts": "write(thing); read(text)",
    "streets": """learned_at(street, address, moment); comes_to(street, holder, moment=None);
        door_tables(street, promise, moment=None); door_clash(street, promise, moment=None)""",
    "closings": """closed(street, houses); may_close(street, houses, promise); closes_in(street, houses, promise);
        fewest_doors(street, promise); bad_runs(street, promise)""",
    "desks": "",
}
CLASSES = {
    ("lands", "Land"): "__init__(self, addresses, most); addresses(self); most(self); __eq__(self, other)",
    ("histories", "History"): """__init__(self, land, deeds); land(self); deeds(self); now(self);
        rows(self, moment=None); row(self, address, moment=None); many(self, moment=None); made(self, moment=None);
        where(self, piece, moment=None); piece_at(self, address, index, moment=None);
        index_of(self, piece, moment=None); can(self, deed); then(self, deed); ahead(self, moment);
        day(self, moment=None); last_day(self, moment=None); age(self, learned, moment=None);
        __eq__(self, other)""",
    ("streets", "Street"): """__init__(self, history, owners, heirs, turns); history(self); houses(self); turns(self);
        owner(self, address, moment=None); door(self, house, moment=None); __eq__(self, other)""",
    ("desks", "Desk"): """__init__(self, land); history(self); watched(self); give(self, order); would(self, order);
        may(self, numbers); days_for(self, deed); tells(self, address, promise); quarrel(self, promise); undo(self);
        redo(self); orders(self); count(self); at(self, number); copy(self); trial(self, work);
        __eq__(self, other)""",
}
BUILTIN_METHODS = """append clear copy count endswith extend find get index insert isalnum isalpha isdigit islower
    isspace isupper items join keys ljust lower lstrip partition pop remove replace reverse rfind rjust rpartition
    rsplit rstrip setdefault sort split splitlines startswith strip update upper values zfill bit_length title
    capitalize swapcase casefold center expandtabs removeprefix removesuffix rindex isascii isdecimal isnumeric
    istitle isidentifier isprintable translate maketrans encode decode hex""".split()
BUILTINS = """len range enumerate zip min max sum abs sorted reversed int str bool bytes list tuple dict set
    frozenset isinstance ord repr any all divmod iter next map super property staticmethod classmethod object
    NotImplemented Exception ValueError TypeError KeyError IndexError LookupError ZeroDivisionError ArithmeticError
    OverflowError RuntimeError NotImplementedError AttributeError StopIteration""".split()
LIBRARY = ("heapq", "math", "itertools")
WORDS = "type typing enum Enum Flag Generic Protocol ABC namedtuple dataclass overload contextmanager".split()


def signatures(text):
    return [" ".join(part.split()) for part in text.split(";") if part.strip()]


def files():
    return sorted(PACKAGE.glob("*.py"))


def trees():
    return [(path, ast.parse(path.read_text())) for path in files()]


class Interface(unittest.TestCase):
    def test_functions_stand_in_their_files(self):
        for name, text in INTERFACE.items():
            module = importlib.import_module("oldaddress." + name)
            for signature in signatures(text):
                function = getattr(module, signature.split("(")[0])
                self.assertEqual(function.__name__ + str(inspect.signature(function)), signature)
                self.assertEqual(function.__module__, module.__name__)

    def test_methods_stand_in_their_classes(self):
        for (name, owner), text in CLASSES.items():
            module = importlib.import_module("oldaddress." + name)
            owner = getattr(module, owner)
            self.assertEqual(owner.__module__, module.__name__)
            for signature in signatures(text):
                method = vars(owner)[signature.split("(")[0]]
                self.assertEqual(method.__name__ + str(inspect.signature(method)), signature)


class Form(unittest.TestCase):
    def test_files(self):
        for path in PACKAGE.iterdir():
            self.assertTrue(path.suffix == ".py" or path.name == "__pycache__", path)
        for path in files():
            text = path.read_bytes().decode("ascii")
            self.assertTrue(all(sign == "\n" or " " <= sign <= "~" for sign in text), path)
            lines = text.splitlines()
            self.assertLessEqual(len(lines), 399, path)
            self.assertLessEqual(max(map(len, lines), default=0), 120, path)

    def test_functions_are_small(self):
        for path, tree in trees():
            for node in ast.walk(tree):
                if isinstance(node, ast.FunctionDef):
                    self.assertLessEqual(node.end_lineno - node.lineno + 1, 40, (path, node.name))

    def test_statements_and_values(self):
        barred = (ast.Global, ast.AsyncFunctionDef, ast.AsyncFor, ast.AsyncWith, ast.Await, ast.Import, ast.Div)
        for path, tree in trees():
            for node in ast.walk(tree):
                self.assertNotIsInstance(node, barred, (path, getattr(node, "lineno", 0)))
                if isinstance(node, ast.Constant):
                    self.assertIn(type(node.value), (int, str, bytes, bool, type(None)), path)
                if isinstance(node, ast.Constant) and isinstance(node.value, str):
                    self.assertNotIn("%", node.value, path)
                if isinstance(node, ast.ClassDef):
                    self.assertEqual(node.decorator_list, [], path)

    def test_imports_make_no_ring(self):
        imports = {}
        for path, tree in trees():
            found = [node for node in ast.walk(tree) if isinstance(node, ast.ImportFrom)]
            found = [node for node in found if node.module not in LIBRARY]
            self.assertTrue(all(node.level == 0 and node.module.startswith("oldaddress.") for node in found), path)
            imports[path.stem] = {node.module.split(".")[1] for node in found}
            names = [alias for node in found for alias in node.names]
            self.assertTrue(all(alias.asname is None and alias.name != "*" for alias in names), path)
        while imports:
            leaves = [name for name, needed in imports.items() if not needed & set(imports)]
            self.assertTrue(leaves, imports)
            for name in leaves:
                del imports[name]

    def test_names_are_bound_once_and_used(self):
        for path, tree in trees():
            top = []
            for node in tree.body:
                if isinstance(node, ast.ImportFrom):
                    top += [alias.name for alias in node.names]
                elif isinstance(node, (ast.FunctionDef, ast.ClassDef)):
                    top.append(node.name)
                elif isinstance(node, ast.Assign):
                    top.append(node.targets[0].id)
            self.assertEqual(len(top), len(set(top)), path)
            stored = {n.id for n in ast.walk(tree) if isinstance(n, ast.Name) and isinstance(n.ctx, ast.Store)}
            parameters = {n.arg for n in ast.walk(tree) if isinstance(n, ast.arg)}
            stored |= {n.name for n in ast.walk(tree) if isinstance(n, ast.FunctionDef)}
            loaded = {n.id for n in ast.walk(tree) if isinstance(n, ast.Name) and isinstance(n.ctx, ast.Load)}
            classes = {n.name for n in tree.body if isinstance(n, ast.ClassDef)}
            imported = {a.name for n in tree.body if isinstance(n, ast.ImportFrom) for a in n.names}
            self.assertEqual((stored | parameters) & (imported | classes), set(), path)
            self.assertEqual(imported - loaded, set(), path)
            self.assertEqual((stored | parameters | set(top)) & set(BUILTINS), set(), path)
            self.assertEqual(loaded - stored - parameters - set(top) - set(BUILTINS), set(), path)

    def test_lists_and_dicts_at_module_level_are_only_read(self):
        """L15: by an index, by iteration, by in, ==, len and the like; passed on only as a copy."""
        kept = set()
        for _, tree in trees():
            for node in tree.body:
                if isinstance(node, ast.Assign) and isinstance(node.value, (ast.Dict, ast.List)):
                    kept.add(node.targets[0].id)
        self.assertIn("FORMS", kept)
        for path, tree in trees():
            for node in ast.walk(tree):
                for child in ast.iter_child_nodes(node):
                    if isinstance(child, ast.Name) and child.id in kept and isinstance(child.ctx, ast.Load):
                        self.assertTrue(self.is_read(node, child), (path, child.lineno))

    def is_read(self, node, name):
        if isinstance(node, ast.Subscript):
            return node.value is name and isinstance(node.ctx, ast.Load)
        if isinstance(node, (ast.For, ast.comprehension)):
            return node.iter is name
        if isinstance(node, ast.Attribute):
            return node.attr in ("get", "items", "keys", "values", "index", "count")
        if isinstance(node, ast.Call):
            return isinstance(node.func, ast.Name) and node.func.id in ("list", "dict", "tuple", "len", "sorted")
        return isinstance(node, ast.Compare)

    def test_what_is_iterated_at_once_and_sets(self):
        """L23 and L24: zips, views and the like go to a loop or a call that takes them; sets are only looked at."""
        takers = "list tuple dict sorted sum any all enumerate zip max min".split()
        for path, tree in trees():
            for node in ast.walk(tree):
                for child in ast.iter_child_nodes(node):
                    called = child.func if isinstance(child, ast.Call) else None
                    name = getattr(called, "id", getattr(called, "attr", None))
                    taker = getattr(getattr(node, "func", None), "id", None)
                    is_first = taker is not None and child in node.args[:1]
                    if name in ("set", "frozenset") or isinstance(child, (ast.Set, ast.SetComp)):
                        looked_at = isinstance(node, ast.Compare) or (is_first and taker in ("sorted", "len"))
                        self.assertTrue(looked_at, (path, child.lineno))
                    elif name in ("zip", "enumerate", "reversed", "range", "items", "keys", "values"):
                        looped = isinstance(node, (ast.For, ast.comprehension)) and node.iter is child
                        kept = name == "range" and isinstance(node, ast.Assign)
                        self.assertTrue(looped or kept or (is_first and taker in takers), (path, child.lineno))

    def test_methods_are_own_or_allowed_ones(self):
        own, assigned = set(), set()
        for _, tree in trees():
            for node in ast.walk(tree):
                if isinstance(node, ast.FunctionDef):
                    own.add(node.name)
                if isinstance(node, ast.Attribute) and isinstance(node.ctx, ast.Store):
                    assigned.add(node.attr)
        for path, tree in trees():
            for node in ast.walk(tree):
                if isinstance(node, ast.Attribute):
                    known = node.attr in own or node.attr in assigned or node.attr in BUILTIN_METHODS
                    self.assertTrue(known, (path, node.attr))

    def test_words(self):
        for path, tree in trees():
            for node in ast.walk(tree):
                if isinstance(node, (ast.Name, ast.Attribute, ast.arg, ast.FunctionDef, ast.ClassDef)):
                    name = getattr(node, "id", getattr(node, "attr", getattr(node, "arg", getattr(node, "name", ""))))
                    self.assertNotIn(name, WORDS, path)


if __name__ == "__main__":
    unittest.main()
