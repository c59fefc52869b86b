"""The interface's names and arguments, and those rules of the language that a look at the files can tell."""

import ast
import unittest
from pathlib import Path

FOLDER = Path(__file__).resolve().parent.parent / "bothwalks"
LIBRARY = {"math": {"gcd", "lcm", "isqrt", "comb", "perm", "factorial"}}

FUNCTIONS = {
    "shares": {"is_spread": "many thing", "pick": "spread share"},
    "equations": {"solve": "rows right"},
    "amounts": {
        "amounts": "rows right", "cheapest": "rows right costs", "is_amounts": "rows right thing",
        "is_refusal": "rows right thing",
    },
    "carrying": {
        "carry": "p q costs", "is_plan": "p q thing", "is_prices": "costs thing", "plan_cost": "costs plan",
        "worth": "p q prices",
    },
    "chains": {"beside": "one other", "product": "one other", "onto": "chain states"},
    "walking": {
        "after": "chain spread steps", "reached": "chain state", "closed_parts": "chain", "apart": "p q",
        "period": "chain state", "rest": "chain state", "is_rest": "chain thing", "ends": "chain state",
        "mean_steps": "chain state goals",
    },
    "lumps": {"lumps": "chain", "lumped": "chain", "is_lumping": "chain thing"},
    "seen": {
        "seen_share": "chain state seen", "seen_at": "chain state seen", "likeliest": "chain state seen",
        "unlike_seen": "chain s t", "greatest_gap": "chain s t n", "gap_rows": "chain s t n",
    },
    "ties": {
        "is_ties": "chain thing", "free_ties": "chain", "close_ties": "chain", "tied_after": "chain ties s t n",
        "tied_mean": "chain ties s t", "tied_differ": "chain ties s t",
    },
    "near": {"distances": "chain", "best_ties": "chain", "distance": "chain s t"},
    "papers": {
        "near_paper": "chain s t", "far_paper": "chain", "is_near_paper": "chain thing", "is_far_paper": "chain thing",
    },
    "meeting": {"soonest": "chain", "soonest_ties": "chain", "never_meet": "chain"},
    "waiting": {
        "meeting_paper": "chain s t", "waiting_paper": "chain", "is_meeting_paper": "chain thing",
        "is_waiting_paper": "chain thing",
    },
    "within": {"met_within": "chain s t n"},
    "orders": {"up_sets": "order", "line": "size", "under": "order p q"},
    "below": {
        "kept_below": "order one other", "below_ties": "order one other", "fall_paper": "order one other",
        "is_below_ties": "order one other thing", "is_fall_paper": "order one other thing", "rising": "chain order",
    },
    "draws": {"is_draw_of": "chain thing", "same_draw": "chain", "free_draw": "chain"},
    "risingdraws": {"rising_draw": "chain order", "is_rising_weights": "chain order thing"},
    "gathering": {
        "gather_word": "draw", "stuck": "draw", "is_stuck": "draw thing", "gather_mean": "draw",
        "gather_shares": "draw n",
    },
    "choices": {
        "worths": "choices way", "best_worths": "choices", "best_way": "choices", "is_best_worths": "choices thing",
        "way_chain": "choices way labels",
    },
    "bounds": {"worth_bounds": "choices"},
    "both": {"tried": "walk shares", "walked": "chain state shares"},
    "texts": {"written": "chain", "written_ties": "chain ties", "read": "text", "read_ties": "chain text"},
    "menus": {"single": "chain"},
    "menulumps": {"menu_lumps": "menu", "is_menu_lumping": "menu thing"},
    "duels": {
        "duel_distances": "menu", "duel_distance": "menu s t", "best_challenges": "menu", "best_answers": "menu",
    },
    "duelling": {
        "duel_share": "menu challenges answers s t", "won_within": "menu challenges answers s t n",
    },
    "duelpapers": {
        "answer_paper": "menu s t", "challenge_paper": "menu", "is_answer_paper": "menu thing",
        "is_challenge_paper": "menu thing",
    },
}
METHODS = {
    "shares": {"Share": {"__init__": "top bottom", "over": "other", "less": "other"}},
    "chains": {
        "Chain": {
            "__init__": "rows labels", "row": "state", "label": "state", "with_row": "state spread",
            "with_label": "state name", "__eq__": "other",
        },
    },
    "orders": {
        "Order": {"__init__": "size pairs", "below": "s t", "pairs": "", "turned": "", "__eq__": "other"},
    },
    "draws": {"Draw": {"__init__": "parts", "rows": "", "ties": "", "__eq__": "other"}},
    "choices": {
        "Choices": {"__init__": "moves factor", "names": "state", "pay": "state name", "row": "state name"},
    },
    "keepers": {
        "Keeper": {
            "__init__": "chain", "keep": "paper", "papers": "", "row": "state spread", "label": "state name", "undo": "",
        },
    },
    "both": {
        "Both": {
            "__init__": "chain ties s t", "step": "share", "trial": "shares", "__enter__": "",
            "__exit__": "kind value trace",
        },
    },
    "menus": {
        "Menu": {
            "__init__": "moves labels", "options": "state", "label": "state", "spread": "state option",
            "followed": "way", "__eq__": "other",
        },
    },
    "duelling": {"Duel": {"__init__": "menu answers s t", "step": "challenge share", "back": ""}},
}


def files():
    return sorted(FOLDER.rglob("*.py"))


def tree(path):
    return ast.parse(path.read_text(encoding="utf-8"))


def arguments(function):
    return [argument.arg for argument in function.args.args]


class InterfaceTest(unittest.TestCase):

    def test_functions_are_defined_in_their_files_with_their_arguments(self):
        for name, functions in FUNCTIONS.items():
            body = tree(FOLDER / f"{name}.py").body
            defined = {part.name: part for part in body if isinstance(part, ast.FunctionDef)}
            for function, told in functions.items():
                self.assertEqual(arguments(defined[function]), told.split(), f"{name}.{function}")

    def test_methods_are_defined_in_their_classes_with_their_arguments(self):
        for name, classes in METHODS.items():
            body = tree(FOLDER / f"{name}.py").body
            defined = {part.name: part for part in body if isinstance(part, ast.ClassDef)}
            for kind, methods in classes.items():
                own = {part.name: part for part in defined[kind].body if isinstance(part, ast.FunctionDef)}
                for method, told in methods.items():
                    self.assertEqual(arguments(own[method])[1:], told.split(), f"{name}.{kind}.{method}")


class LanguageTest(unittest.TestCase):

    def test_the_folder_holds_files_of_the_package_only(self):
        for path in FOLDER.rglob("*"):
            if "__pycache__" not in path.parts:
                self.assertEqual(path.suffix, ".py", path)

    def test_sizes_and_characters(self):
        for path in files():
            lines = path.read_text(encoding="utf-8").split("\n")
            self.assertLess(len(lines), 400, path)
            for line in lines:
                self.assertLessEqual(len(line), 120, path)
                self.assertTrue(all(" " <= sign <= "~" for sign in line), f"{path}: {line}")

    def test_functions_are_small(self):
        for path in files():
            for part in ast.walk(tree(path)):
                if isinstance(part, ast.FunctionDef):
                    self.assertLessEqual(part.end_lineno - part.lineno + 1, 40, f"{path}: {part.name}")

    def test_imports(self):
        for path in files():
            bodies = [part for part in ast.walk(tree(path)) if isinstance(part, (ast.Import, ast.ImportFrom))]
            for part in bodies:
                self.assertIsInstance(part, ast.ImportFrom, path)
                names = {alias.name for alias in part.names}
                if not part.module.startswith("bothwalks."):
                    self.assertLessEqual(names, LIBRARY[part.module], path)
                else:
                    body = tree(FOLDER / f"{part.module.split('.')[1]}.py").body
                    defined = {found.name for found in body if isinstance(found, (ast.FunctionDef, ast.ClassDef))}
                    targets = [found.targets[0].id for found in body if isinstance(found, ast.Assign)]
                    self.assertLessEqual(names, defined.union(targets), path)

    def test_what_the_language_leaves_out(self):
        left_out = (
            ast.GeneratorExp, ast.Global, ast.AsyncFunctionDef, ast.Div, ast.SetComp, ast.Try, ast.Delete,
        )
        for path in files():
            for part in ast.walk(tree(path)):
                self.assertNotIsInstance(part, left_out, f"{path}: {getattr(part, 'lineno', '')}")
                if isinstance(part, ast.Constant):
                    self.assertNotIsInstance(part.value, (float, complex), path)


if __name__ == "__main__":
    unittest.main()
