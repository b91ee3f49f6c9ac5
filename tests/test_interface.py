"""The interface: each name is defined in the file under which it stands, with the parameters that it lists."""
import importlib
import inspect
import unittest

FUNCTIONS = {
    "basics": {"is_integer": "value", "is_count": "value"},
    "ratios": {"is_number": "value"},
    "steps": {"is_points": "value", "size": "points", "excess": "points", "told_sums": "points", "spokes": "points"},
    "sums": {
        "is_sum": "points value", "sum_by": "points numbers", "numbers_of": "points sum_now", "is_form": "points value",
        "heights": "points form", "form_through": "points places",
    },
    "corners": {
        "is_corner": "points place", "corner_places": "points", "corner_form": "points place", "mixture": "points place",
        "is_corner_form": "points place value", "is_mixture": "points place value",
    },
    "bodies": {"simplex": "many", "moved": "body rows shift"},
    "wheels": {
        "is_wheel": "value", "peaks": "wheel", "in_letters": "wheel table", "letters": "wheel other",
        "beyond": "wheel normal", "least_beyond": "wheel",
    },
    "balances": {
        "is_balanced": "wheel places", "balance": "wheel places", "tipping": "wheel places",
        "is_balance": "wheel places value", "is_tipping": "wheel places value", "least_balanced": "wheel",
    },
    "faces": {
        "is_face": "body places", "face_form": "body places", "open_sum": "body places",
        "is_face_form": "body places value", "is_open_sum": "body places value", "holds_face": "body places",
    },
    "lists": {
        "faces": "body many", "facets": "body", "edges": "body", "face_size": "body places", "face_numbers": "body",
    },
    "beams": {"beams": "wheel", "opposites": "wheel"},
    "words": {"word": "wheel", "word_of": "body", "runs": "wheel", "is_word": "value", "keeping": "word"},
    "likeness": {"alike": "body other", "is_alike": "body other value", "own_maps": "body"},
    "twins": {"twins": "body", "are_twins": "body place second"},
    "makes": {"wheel_by": "word", "body_by": "wheel", "pyramid": "body", "joined": "body other"},
    "figures": {
        "face_body": "body places", "around": "body place", "figure": "body place", "figure_face": "body place places",
    },
    "listing": {"words_of": "many excess", "word_count": "many excess"},
    "kinds": {
        "is_simplicial": "word", "simplicial_words": "many excess", "simplicial_count": "many", "numbers_by": "word",
        "is_neighbourly": "body many", "most_neighbourly": "body",
    },
    "texts": {"sorts": "", "is_of_sort": "sort value", "written": "sort value"},
    "readers": {"read": "text"},
    "claims": {
        "words": "", "is_claim": "value", "is_true": "claim", "contrary": "claim", "paper_of": "claim",
        "is_paper_of": "claim value",
    },
    "commands": {"is_name": "value", "is_command": "value", "is_deed": "value"},
    "desk": {"tried": "desk action"},
}
CLASSES = {
    ("ratios", "Ratio"): {
        "parameters": "top bottom", "properties": "top bottom sign is_whole",
        "methods": {
            "over": "other", "unsigned": "", "is_below": "other", "is_at_most": "other", "total": "numbers",
            "__add__": None, "__sub__": None, "__mul__": None, "__radd__": None, "__rsub__": None, "__rmul__": None,
            "__neg__": None, "__eq__": None, "__str__": None, "__repr__": None,
        },
    },
    ("bodies", "Body"): {
        "parameters": "points", "properties": "many size excess",
        "methods": {"points": "", "wheel": "", "__eq__": None, "__repr__": None},
    },
    ("desk", "Desk"): {
        "parameters": "", "properties": "names labels",
        "methods": {
            "__len__": None, "__getitem__": None, "__contains__": None, "claim_of": "label", "do": "command",
            "__call__": "command", "do_all": "commands", "attach": "label paper", "attempt": "commands",
            "fits": "label", "lines": "", "copy": "", "again": "lines",
        },
    },
    ("desk", "Trial"): {
        "parameters": "desk", "properties": "", "methods": {"__enter__": None, "__exit__": None},
    },
}


def module(name):
    return importlib.import_module("fewcorners." + name)


def parameters(called):
    return " ".join(inspect.signature(called).parameters)


class InterfaceTest(unittest.TestCase):
    def test_functions(self):
        for name, functions in FUNCTIONS.items():
            for function, wanted in functions.items():
                found = getattr(module(name), function)
                self.assertEqual([found.__module__, found.__name__], ["fewcorners." + name, function])
                self.assertEqual(parameters(found), wanted, function)

    def test_classes(self):
        for (name, known), wanted in CLASSES.items():
            found = getattr(module(name), known)
            self.assertEqual([found.__module__, parameters(found)], ["fewcorners." + name, wanted["parameters"]])
            for told in wanted["properties"].split():
                self.assertIsInstance(vars(found)[told], property)

    def test_methods_stand_in_the_class_itself(self):
        for (name, known), wanted in CLASSES.items():
            found = getattr(module(name), known)
            for method, names in wanted["methods"].items():
                self.assertIn(method, vars(found))
                if names is not None:
                    told = [word for word in parameters(getattr(found, method)).split() if word != "self"]
                    self.assertEqual(" ".join(told), names, method)
