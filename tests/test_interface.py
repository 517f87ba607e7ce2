"""The interface: each function and method under its name, with the arguments that the document writes."""

import importlib
import inspect
import unittest

from heapfriends.pile import Pile

FUNCTIONS = {
    "heaps": "is_heap(thing) is_ties(heap,thing) lies_above(heap,one,other) friends_of(ties,book) fans_of(ties,book)",
    "laying": "may_go(heap,ties) laid(heap,ties,book) done(heap,ties,row) first_refused(heap,ties,row) left_by(heap,row)",
    "rings": "shows_ring(ties,thing) ring_number(heap,ring) rings(ties) knots(ties)",
    "between": "leads(heap,other,ties) between(heap,other,ties)",
    "checks": "shows_row(heap,other,ties,thing) shows_bar(heap,other,ties,thing)",
    "least": "goings(heap,other,ties) fewest(heap,other,ties) wasted(heap,other,ties,row)",
    "chains": "chain(heap,other,ties,book) shows_chain(heap,other,ties,thing)",
    "shortest": "first_row(heap,other,ties) next_ones(heap,other,ties) rows_many(heap,other,ties) "
                "cheapest(heap,other,ties,prices)",
    "back": "can_go_back(heap,ties,book) first_lost(heap,ties,row) way_back(heap,ties,row)",
    "lots": "alike(heap,other,ties) lots_of(heaps,ties) reading(heap,ties)",
    "many": "led_many(heap,ties) lot_many(heap,ties) lots_many(heap,ties) all_led(heap,ties)",
    "lifting": "must_go(heap,ties,books) lift(heap,ties,books) why_must(heap,ties,books,book) "
               "shows_must(heap,ties,books,thing)",
    "sightings": "history(heap,ties,seen) in_order(ties,seen)",
    "repeats": "again(heap,ties,row,many) is_endless(heap,ties,row) gone(row,many,deeds)",
    "learned": "ties_let(heap,row) ties_of_all(histories) one_more(heap,other,ties)",
    "otherwise": "called(heap,ties,names) turned(ties) piled(upper,lower) only(heap,ties,books)",
    "texts": "heap_text(heap) ties_text(ties) heap_in(text) ties_in(text)",
    "desk": "answers(text)",
}
METHODS = (
    "__init__(self,heap,ties=()) lay(self,book) go(self,row) tie(self,book,friend) untie(self,book,friend) "
    "add(self,book,at=0) take(self,book) undo(self) heap(self) ties(self) may_go(self) told(self,other) went(self,book) "
    "deeds(self) as_of(self,many) twin(self) log(self) __len__(self) __repr__(self) __eq__(self,other)"
)


def written(function):
    return function.__name__ + str(inspect.signature(function)).replace(" ", "")


class Interface(unittest.TestCase):
    def test_functions(self):
        for name, told in FUNCTIONS.items():
            module = importlib.import_module("heapfriends." + name)
            for call in told.split():
                function = getattr(module, call.split("(")[0])
                self.assertEqual(function.__module__, module.__name__)
                self.assertEqual(written(function), call)

    def test_methods_stand_in_the_class_itself(self):
        for call in METHODS.split():
            self.assertEqual(written(vars(Pile)[call.split("(")[0]]), call)


if __name__ == "__main__":
    unittest.main()
