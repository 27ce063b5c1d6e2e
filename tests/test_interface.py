"""All names of the interface: where they are defined, and what they are handed."""

import importlib
import inspect
import unittest

from evenwheels import errors
from evenwheels.engine import Engine

# By file: each function and the names of its arguments.
INTERFACE = {
    "fractions": "is_whole(thing) is_fraction(thing) fraction(top,bottom) plus(one,other) less(one,other) "
                 "times(one,other) half(one) over(one,other) is_nought(one)",
    "machines": "is_machine(thing) need_machine(thing) machine_of(counts,touches) cells(machine) spots(machine)",
    "loads": "is_load(machine,thing) need_load(machine,thing) empty(machine) one_at(machine,spot) "
             "added(machine,load,other) scaled(machine,load,by) held(machine,load) squares(machine,load) "
             "read(machine,load) beat(machine,load) behind(machine,load,beats) readings(machine,load,beats)",
    "web": "lots(machine) lot_of(machine,wheel) web(machine) way_from(machine,spot) ways_to(machine,touch) "
           "web_readings(machine,load,beats)",
    "shifts": "shifts(machine,wheel,modulo) are_shifts(machine,wheel,modulo,thing) g_of(machine,wheel) "
              "miss(machine,spot,other)",
    "closed": "is_closed(machine,thing) length(machine,way) simple_ways(machine,wheel)",
    "gpapers": "g_paper(machine,wheel) check_g(machine,wheel,paper)",
    "classes": "class_of(machine,spot) classes(machine) class_sums(machine,load)",
    "ends": "evened(machine,load) is_even(machine,load) end_alike(machine,load,other)",
    "owed": "owed(machine,load) met(machine,load) first_met(machine,load)",
    "links": "linked(machine,spot,link) class_paper(machine,spot,other) check_class(machine,spot,other,paper)",
    "polynomials": "is_polynomial(thing) need_polynomial(thing) degree_of(one) sum_of(one,other) product_of(one,other) "
                   "divided_by(one,other) worth_at(one,number) out_row(one) one_less(many)",
    "rules": "rule_by_ways(machine,wheel) rule_by_places(machine,wheel) left_over(machine,wheel) "
             "rule_of(machine,touch) whole_rule(machine) how_many_die(machine) follows(one,things)",
    "rest": "rests(machine) rest_beat(machine) unrest_paper(machine) check_unrest(machine,paper)",
    "mirror": "mirror(machine) mirror_touch(machine,touch) turned(machine,load) paired(machine,load,other)",
    "windows": "need_window(machine,window) row_of(machine,touch,beat) looks(machine,window,load,beats) "
               "rank(machine,window,beats) sees(machine,window) shortest(machine,touch)",
    "fits": "need_seen(machine,window,seen) least_load(machine,window,seen) first_clash(machine,window,seen) "
            "check_clash(machine,window,seen,paper)",
    "silence": "silent(machine,window) is_silent(machine,window,load) told_spots(machine,window) "
               "telling(machine,window,spot) check_telling(machine,window,spot,paper)",
    "making": "made(machine,window,gifts) gifts_for(machine,window,load,many)",
    "more": "free_spots(machine) put_on(machine,spot,other) lifted(machine,touch) g_with(machine,spot,other) "
            "is_idle(machine,spot,other) idle_pairs(machine) how_many_classes(machine) best_pairs(machine) "
            "witness(machine,spot,other)",
    "lean": "is_bridge(machine,touch) is_needless(machine,touch) parts(machine,touch) is_lean(machine) lean(machine) "
            "core(machine)",
    "crossing": "crossed(machine,touches) places_crossed(machine,touches) load_crossed(machine,load,touches)",
    "alike": "are_names(machine,thing) named(machine,names) names_between(machine,other) many_names(machine)",
    "webs": "are_one_web(machine,other) cross_paper(machine,other) check_cross(machine,other,paper) family(machine) "
            "count_of_rounds(machine,wheel) word_machine(many)",
    "pasts": "has_past(machine,load,beats) depth(machine,load) least_past(machine,load,beats) "
             "no_past(machine,load,beats) check_no_past(machine,load,beats,paper)",
    "aims": "aim(machine,load,touch,beats,spot,reading) least_aim(machine,load,touch,beats,reading)",
}
METHODS = ("roll(beats) give(spot,by) put_on(spot,other) lift(touch) undo() machine() load() clock() sums() "
           "met_so_far() worth_given() owed() twin()")


def names_told(text):
    """Pairs of a name and a list of its arguments."""
    for told in text.split():
        name, _, arguments = told.rstrip(")").partition("(")
        yield name, arguments.split(",") if arguments else []


class Interface(unittest.TestCase):
    def test_functions(self):
        for file, text in INTERFACE.items():
            module = importlib.import_module(f"evenwheels.{file}")
            for name, arguments in names_told(text):
                function = getattr(module, name)
                self.assertTrue(inspect.isfunction(function))
                self.assertEqual(function.__module__, f"evenwheels.{file}")
                self.assertEqual(function.__name__, name)
                parameters = inspect.signature(function).parameters
                self.assertEqual(list(parameters), arguments, name)
                for argument in parameters.values():
                    self.assertIs(argument.kind, inspect.Parameter.POSITIONAL_OR_KEYWORD)
                    wanted = 1 if (name, argument.name) == ("fraction", "bottom") else inspect.Parameter.empty
                    self.assertEqual(argument.default, wanted)

    def test_methods_stand_in_the_class_itself(self):
        self.assertEqual(Engine.__module__, "evenwheels.engine")
        self.assertEqual(list(inspect.signature(Engine).parameters), ["machine", "load"])
        for name, arguments in names_told(METHODS):
            self.assertIn(name, vars(Engine))
            self.assertEqual(list(inspect.signature(vars(Engine)[name]).parameters), ["self", *arguments])
        for name in ("__init__", "__len__", "__eq__"):
            self.assertIn(name, vars(Engine))

    def test_errors(self):
        for base, names in ((errors.WheelError, "BadMachine BadLoad BadSpot BadRule BadReadings BadPaper OutOfPlace "
                                                "TooGreat"), (errors.MissError, "Never NoTouch")):
            for name in names.split():
                self.assertEqual(getattr(errors, name).__bases__, (base,))
                self.assertEqual(getattr(errors, name).__module__, "evenwheels.errors")
        self.assertEqual(errors.WheelError.__bases__, (ValueError,))
        self.assertEqual(errors.MissError.__bases__, (LookupError,))


if __name__ == "__main__":
    unittest.main()
