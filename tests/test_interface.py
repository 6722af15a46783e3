"""The interface: names, parameter names, and the file in which each function and class is defined."""

import importlib
import inspect
import unittest

# For each file the functions with their parameters, and the classes with those of each method.
FUNCTIONS = {
    "machines": {
        "is_row": ["value", "letters"], "least": ["machine"], "same_rows": ["one", "other"],
        "parting_row": ["one", "other"],
    },
    "rules": {
        "is_rules": ["value", "letters"], "keeps": ["rules", "letters", "row"], "machine_of": ["rules", "letters"],
    },
    "tasks": {"fits": ["task", "weekday", "deal"]},
    "rotas": {
        "is_rota": ["task", "value"], "state_after": ["task", "rota"], "moves": ["task", "rota"], "reached": ["task"],
    },
    "rounds": {
        "round_of": ["task"], "round_holds": ["task", "value"], "longest": ["task"], "heights": ["task"],
        "heights_hold": ["task", "value"],
    },
    "cores": {
        "parts": ["case"], "with_parts": ["case", "some"], "core": ["case"], "core_paper": ["case"],
        "core_holds": ["case", "some", "paper"],
    },
    "means": {
        "is_dislikes": ["task", "value"], "least_mean": ["task", "dislikes"], "mean_paper": ["task", "dislikes"],
        "mean_holds": ["task", "dislikes", "mean", "value"],
    },
    "leads": {
        "least_lead": ["task", "loads", "p", "q"], "lead_round": ["task", "loads", "p", "q"],
        "lead_holds": ["task", "loads", "p", "q", "lead", "value"],
    },
    "spans": {
        "count": ["task", "n"], "best": ["task", "dislikes", "n"], "best_paper": ["task", "dislikes", "n"],
        "best_holds": ["task", "dislikes", "n", "rota", "value"],
    },
    "changes": {
        "is_fixed": ["task", "n", "value"], "forced": ["task", "n", "fixed"], "nearest": ["task", "n", "fixed", "old"],
        "walls": ["task", "n", "fixed"], "walls_hold": ["task", "n", "fixed", "value"],
    },
    "posts": {
        "filled": ["skills", "posts"], "short_posts": ["skills", "posts"], "short_holds": ["skills", "posts", "value"],
    },
    "duties": {
        "is_duties": ["jobs", "rest", "value"], "crews": ["jobs", "rest"], "duties": ["jobs", "rest"],
        "apart_jobs": ["jobs", "rest"], "apart_holds": ["jobs", "rest", "many", "value"],
        "cost_of": ["jobs", "rest", "pay", "idle", "value"], "cheapest": ["jobs", "rest", "pay", "idle"],
        "job_prices": ["jobs", "rest", "pay", "idle"],
        "job_prices_hold": ["jobs", "rest", "pay", "idle", "cost", "value"],
    },
    "claims": {
        "is_question": ["case", "value"], "is_claim": ["case", "value"], "answer_of": ["case", "question"],
        "question_of": ["case", "claim"],
    },
    "papers": {"paper_of": ["case", "question"], "claim_holds": ["case", "claim", "paper"]},
    "desk": {"same_state": ["one", "other"]},
}
CLASSES = {
    "machines": {"Machine": {"__init__": ["letters", "table"], "__len__": [], "__eq__": ["other"], "after": ["row"]}},
    "tasks": {
        "Task": {"__init__": ["machines", "wants"], "__eq__": ["other"]},
        "Case": {"__init__": ["letters", "rules", "wants"], "__eq__": ["other"]},
    },
    "desk": {
        "Desk": {
            "__init__": ["case"], "bind": ["person", "rule"], "loose": ["person", "k"], "ask": ["weekday", "want"],
            "spare": ["weekday", "k"], "longer": ["row"], "shorter": [], "watch": ["question"], "leave": ["question"],
            "undo": [], "redo": [], "claim": ["question"], "paper": ["question"], "report": [],
        },
    },
}


def parameters(function):
    return list(inspect.signature(function).parameters)


class InterfaceTest(unittest.TestCase):
    def test_functions(self):
        for file, functions in FUNCTIONS.items():
            module = importlib.import_module("dutyweeks." + file)
            for name, expected in functions.items():
                self.assertEqual(parameters(getattr(module, name)), expected)
                self.assertEqual(getattr(module, name).__module__, module.__name__)

    def test_classes(self):
        for file, classes in CLASSES.items():
            module = importlib.import_module("dutyweeks." + file)
            for name, methods in classes.items():
                own = getattr(module, name)
                self.assertEqual(own.__module__, module.__name__)
                for method, expected in methods.items():
                    self.assertEqual(parameters(vars(own)[method]), ["self"] + expected)


if __name__ == "__main__":
    unittest.main()
