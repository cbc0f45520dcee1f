"""The interface: what is defined where, under which names, and with which arguments."""

import importlib
import inspect
import unittest

MODULES = {
    "bags": {
        "Bag": """__init__(*pairs) of(rows) width whole often(row) __contains__ __len__ __iter__ __getitem__ __add__
                  __and__ __or__ __sub__ __mul__ __rmul__ __le__ __lt__ __ge__ __gt__ __eq__ __str__ read(text)""",
    },
    "truths": {
        "Test": """columns names conditions size truth(values,counts=None) __call__(values,counts=None) __and__ __or__
                   __invert__ __eq__ __str__""",
        "Condition": "",
        "Below": "__init__(column,number)",
        "UpTo": "__init__(column,number)",
        "Equals": "__init__(column,number)",
        "Missing": "__init__(column)",
        "Has": "__init__(question)",
        "And": "__init__(one,other)",
        "Or": "__init__(one,other)",
        "Not": "__init__(test)",
    },
    "bases": {
        "Base": """__init__(columns,**bags) of(columns,bags) columns names __getitem__ __contains__ __len__ __iter__
                   rows() numbers(row) values_of(row) with_bag(name,bag) only(row) filled(parts) __eq__""",
    },
    "questions": {
        "Question": """names columns conditions size parts is_plain __contains__ often(values,counts) __call__(base)
                       __iter__ places() __getitem__ put(place,part) filled(parts) __eq__ __str__ __add__ __mul__
                       __and__ __or__ __sub__ __mod__ __floordiv__""",
        "Bare": "", "Pair": "", "Single": "", "Straight": "", "Bent": "", "Chosen": "",
        "Table": "__init__(name)",
        "Empty": "__init__()",
        "Both": "__init__(one,other)",
        "Times": "__init__(number,part)",
        "Lesser": "__init__(one,other)",
        "Greater": "__init__(one,other)",
        "Rest": "__init__(one,other)",
        "Where": "__init__(part,test)",
        "Unless": "__init__(part,test)",
    },
    "forms": {
        "Bound": """__init__(form,is_strict=False) __call__(numbers) __len__ is_false __add__ __mul__ __rmul__ __invert__
                    __eq__ __str__ read(text)""",
    },
    "branches": {
        "Branch": """__init__(names,*bounds) names bounds __iter__ __len__ __getitem__ __contains__ __add__
                     __call__(numbers) __eq__ side(form) stands(form)""",
        "Open": "__init__(form) __eq__",
    },
    "weights": {
        "Point": "__init__(counts) __bool__ __eq__",
        "Clash": "__init__(weights) __bool__ __eq__",
    },
    "rules": {
        "Rule": "pairs __call__(base) broken_at(base) __eq__ __str__ read(text)",
        "Within": "__init__(one,other)",
        "Alike": "__init__(one,other)",
        "Apart": "__init__(one,other)",
        "Inside": "__init__(one,other)",
    },
    "kinds": {"Kind": "__init__(row,truths) __eq__"},
    "judge": {
        "Verdict": "",
        "Shown": "__init__(trees) __bool__ __eq__",
        "Agreed": "__init__(first,last) __bool__ __eq__",
        "Parted": "__init__(row,counts) __bool__ __eq__",
        "Split": "__init__(form,yes,no) __eq__",
        "Leaf": "__init__(weights) __eq__",
    },
    "books": {
        "Book": """__init__(*rules) __iter__ __len__ __contains__ __getitem__ pairs __add__ __sub__ __eq__ keeps(base)
                   first_broken(base) follows(rule) needless() bare() __str__ read(text)""",
    },
    "rewrites": {
        "Rewrite": """__init__(pattern,replacement) verdict is_right back() fits(question,place) places(question)
                      done(question,place) __eq__ __str__ read(text)""",
    },
    "plans": {
        "Plan": """__init__(question,*rewrites) question begun rewrites size turn(question) do(at,place) each_step()
                   shrink() papers log undo() deeds trial() tried(work) attempt(work) twin() __eq__""",
    },
    "rooms": {
        "Piece": "__init__(form,point) __eq__",
        "Room": "__init__(rank,kept,tree) __eq__",
        "Share": "__init__(shares,divisor) __eq__",
        "Later": "__init__(counts,one,other) __eq__",
    },
    "stores": {
        "Store": """__init__(base,*rules) base rules __contains__ __getitem__ __len__ __iter__ put(name,row,times=1)
                    take(name,row,times=1) move(row,one,other) __setitem__ set_bag(name,bag) answer(question)
                    watch(title,question) unwatch(title) titles watched(title) changes() undo() deeds trial()
                    tried(work) attempt(work) twin() __eq__""",
    },
    "desk": {"Desk": "__init__(store) say(line) __call__(line) run(*lines) store_now() deeds"},
}

FUNCTIONS = {
    "words.read_question": "text",
    "words.read_test": "text",
    "forms.is_multiple": "one,other",
    "branches.form_of": "question,truths,branch",
    "weights.settled": "bounds,many",
    "weights.shows_point": "bounds,many,value",
    "weights.shows_clash": "bounds,many,value",
    "kinds.kinds": "*conditions",
    "judge.never_more": "one,other,*rules",
    "judge.alike": "one,other,*rules",
    "look_judge.shows_shown": "one,other,value,*rules",
    "look_judge.shows_agreed": "one,other,value,*rules",
    "look_judge.shows_parted": "one,other,value,*rules",
    "least.least_parted": "one,other,*rules",
    "least.shows_least": "one,other,paper,*rules",
    "hangs.helps": "question,name",
    "hangs.harms": "question,name",
    "hangs.plays_part": "question,name",
    "hangs.gain": "question,name",
    "hangs.loss": "question,name",
    "hangs.never_any": "question",
    "hangs.same_rows": "one,other",
    "shortest.shortest": "question",
    "shortest.explains": "samples",
    "rooms.pieces": "question",
    "rooms.room": "question",
    "rooms.shows_room": "question,value",
    "rooms.told_apart": "question,counts,others",
    "streams.stream": "question,base,behind=None",
    "streams.joined": "*parts",
    "texts.base_text": "base",
    "texts.store_text": "store",
    "texts.plan_text": "plan",
    "reader.read_base": "text",
    "reader.read_store": "text",
    "reader.read_plan": "text",
}


def arguments(call):
    """The arguments of a function or a method, its own object left out."""
    told = [str(one) for one in inspect.signature(call).parameters.values() if one.name != "self"]
    return ",".join(told)


class InterfaceTest(unittest.TestCase):

    def test_classes_and_their_methods(self):
        for file, classes in MODULES.items():
            module = importlib.import_module(f"rowcounts.{file}")
            for name, methods in classes.items():
                made = getattr(module, name)
                self.assertTrue(inspect.isclass(made))
                self.assertEqual(made.__module__, module.__name__)
                for method in methods.split():
                    self.check_method(made, method)

    def check_method(self, made, method):
        name, sign, told = method.partition("(")
        self.assertIn(name, vars(made), made)
        if sign:
            found = getattr(made, name)
            self.assertEqual(arguments(found), told.rstrip(")"), f"{made} {name}")

    def test_functions(self):
        for place, told in FUNCTIONS.items():
            file, _, name = place.partition(".")
            module = importlib.import_module(f"rowcounts.{file}")
            found = getattr(module, name)
            self.assertEqual([found.__module__, arguments(found)], [module.__name__, told])


if __name__ == "__main__":
    unittest.main()
