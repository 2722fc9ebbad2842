"""Names, arguments and kinds of values of the interface."""

import inspect
import unittest

from rootshared.base import pools, webs
from rootshared.desk import desk
from rootshared.groups import groups, links
from rootshared.make import makers, steering
from rootshared.pools import families
from rootshared.programs import checks, programs, runs
from rootshared.text import shell, texts
from rootshared.words import lots, views, words
from tests.helpers import BOTH, LINE, TELL

# A name behind a star is a keyword.
FUNCTIONS = (
    (webs, "silent_web", "size"), (webs, "full_web", "size"), (webs, "star_web", "size center"),
    (webs, "chain_web", "size first"), (pools, "star_pool", "size"), (pools, "chain_pool", "size"),
    (pools, "muted_pool", "size"),
    (links, "alike", "one other third"), (links, "links_in", "pool indices"), (links, "is_link", "pool value"),
    (links, "parts_of", "pool indices"), (links, "linked_way", "pool indices one other"),
    (links, "is_linked_way", "pool indices value"),
    (groups, "common_roots", "pool indices"), (groups, "is_closed", "pool indices"), (groups, "splitting", "pool"),
    (groups, "closed_groups", "pool"), (groups, "can_agree", "pool"), (groups, "obstacle", "pool"),
    (groups, "is_obstacle", "pool value"), (groups, "agreement_paper", "pool"),
    (groups, "is_agreement_paper", "pool value"),
    (words, "is_word", "pool value"), (words, "all_words", "pool rounds"), (words, "known_inputs", "pool word"),
    (words, "heard_by_all", "pool word"), (words, "product_web", "pool word"),
    (words, "first_round", "pool word house"), (words, "latest", "pool house"), (words, "stall", "pool house"),
    (words, "is_stall", "pool house value"),
    (views, "equal_views", "pool one other"), (views, "first_difference", "pool one other house"),
    (views, "view_numbers", "pool rounds"), (views, "view_counts", "pool rounds"),
    (views, "same_sight", "pool rounds house word"),
    (lots, "lots_of", "pool rounds"), (lots, "lot_heralds", "pool rounds"), (lots, "agree_in", "pool rounds"),
    (lots, "bar", "pool rounds"), (lots, "is_bar", "pool value"), (lots, "least_rounds", "pool *most=3"),
    (lots, "lot_way", "pool one other"),
    (programs, "is_program", "size states value"),
    (runs, "first_configuration", "program inputs"), (runs, "next_configuration", "program web configuration"),
    (checks, "configurations", "program pool inputs"), (checks, "is_right", "program pool"),
    (checks, "found_fault", "program pool"), (checks, "is_fault", "program pool value"),
    (checks, "right_paper", "program pool"), (checks, "is_right_paper", "program pool value"),
    (checks, "slowest", "program pool"), (makers, "made_program", "pool rounds"),
    (makers, "herald_program", "pool house"), (steering, "decisions_ahead", "program pool inputs indices word"),
    (steering, "is_open", "program pool inputs indices word"), (steering, "open_inputs", "program pool indices"),
    (steering, "driven_fault", "program pool indices"), (steering, "open_word", "program pool indices rounds"),
    (steering, "is_open_word", "program pool indices value"),
    (families, "agreeing_groups", "pool"), (families, "greatest_agreeing", "pool"), (families, "least_failing", "pool"),
    (families, "strikes", "pool"), (families, "product_pool", "pool"), (families, "merged_pool", "one other"),
    (families, "twin_numbers", "one other"), (families, "is_twin", "one other value"),
    (texts, "write_web", "web"), (texts, "write_pool", "pool"), (texts, "write_program", "program"),
    (texts, "read_web", "text"), (texts, "read_pool", "text"), (texts, "read_program", "text"),
)

CLASSES = (
    (webs, "Web", "heard",
     {"hears": "house", "reached": "house", "with_hearing": "house other", "without_hearing": "house other",
      "joined": "other", "shared": "other", "then": "other", "is_within": "other", "renumbered": "numbers"},
     "__init__ __contains__ __len__ __eq__ __str__"),
    (pools, "Pool", "webs",
     {"index_of": "web", "is_group": "value", "with_web": "web", "without": "index", "part": "indices",
      "reordered": "indices", "renumbered": "numbers"},
     "__init__ __getitem__ __contains__ __iter__ __len__ __eq__ __str__"),
    (groups, "Sieve", "pool", {"ban": "index", "let": "index", "undo": "*many=1", "twin": ""},
     "__init__ __bool__ __len__ __eq__ __str__"),
    (words, "Hearsay", "pool", {"go": "index", "undo": "*many=1", "twin": ""}, "__init__ __len__ __eq__ __str__"),
    (programs, "Program", "size states starts moves decisions",
     {"after": "state heard", "with_move": "state heard later", "without_move": "state heard", "opposite": "",
      "turned": "numbers", "renumbered": "numbers"}, "__init__ __len__ __eq__ __str__"),
    (runs, "Run", "program pool inputs", {"go": "index", "follow": "word", "undo": "*many=1", "twin": ""},
     "__init__ __bool__ __len__ __eq__ __str__"),
    (steering, "Drive", "program pool indices inputs", {"go": "index", "keep": "*most=10", "undo": "*many=1", "twin": ""},
     "__init__ __bool__ __len__ __eq__ __str__"),
    (families, "Gathering", "size", {"put": "web", "drop": "index", "undo": "*many=1", "twin": ""},
     "__init__ __contains__ __len__ __eq__ __str__"),
    (desk, "Desk", "",
     {"enter": "name pool", "remove": "name", "add_web": "name web", "strike_web": "name index", "merge": "name one other",
      "pin": "pin", "unpin": "pin", "trial": "*changes", "undo": "*many=1", "redo": "*many=1", "twin": ""},
     "__init__ __getitem__ __contains__ __iter__ __len__ __eq__ __str__"),
    (shell, "Shell", "", {"__call__": "command", "desk": ""}, "__init__ __len__ __str__"),
)

ATTRIBUTES = (
    (lambda: webs.Web(((1,), (0,))), "heard size roots parts"),
    (lambda: pools.Pool((BOTH,)), "webs size roots always"),
    (lambda: groups.Sieve(LINE), "pool left verdict"),
    (lambda: words.Hearsay(LINE), "pool word known heralds"),
    (lambda: programs.Program(1, 1, ((0, 0),), {}, {}), "size states starts moves decisions"),
    (lambda: runs.Run(TELL, LINE, (0, 1)), "program pool inputs word configuration decisions since"),
    (lambda: steering.Drive(TELL, LINE, (0, 2), (0, 1)), "group inputs word ahead choices"),
    (lambda: families.Gathering(2), "size webs groups"),
    (lambda: desk.Desk(), "pools grades pins"),
)

CONSTANTS = ((pools, "MAX_WEBS", 8), (pools, "MAX_HOUSES", 5), (words, "MAX_ROUNDS", 12), (lots, "MAX_WORDS", 4096),
             (programs, "MAX_STATES", 400), (programs, "MAX_MOVES", 4000), (checks, "MAX_CONFIGURATIONS", 20000),
             (desk, "MAX_POOLS", 8), (desk, "MAX_PINS", 8))


def parameters(call):
    """The names of the parameters, keywords with a star and their default value."""
    told = []
    for name, given in inspect.signature(call).parameters.items():
        keyword = given.kind is inspect.Parameter.KEYWORD_ONLY
        rest = given.kind is inspect.Parameter.VAR_POSITIONAL
        told.append(f"*{name}={given.default}" if keyword else f"*{name}" if rest else name)
    return " ".join(told)


class Interface(unittest.TestCase):
    def test_functions(self):
        for module, name, wanted in FUNCTIONS:
            function = getattr(module, name)
            self.assertEqual(parameters(function), wanted, name)
            self.assertEqual(function.__module__, module.__name__, name)
            self.assertEqual(function.__name__, name)

    def test_functions_without_keywords_have_no_default_values(self):
        for module, name, wanted in FUNCTIONS:
            for given in inspect.signature(getattr(module, name)).parameters.values():
                if given.kind is not inspect.Parameter.KEYWORD_ONLY:
                    self.assertIs(given.default, inspect.Parameter.empty, name)

    def test_classes(self):
        for module, name, wanted, methods, signs in CLASSES:
            made = getattr(module, name)
            self.assertEqual(made.__module__, module.__name__)
            self.assertEqual(parameters(made), wanted, name)
            for sign in signs.split():
                self.assertIn(sign, vars(made), name)
            for method, row in methods.items():
                self.assertIn(method, vars(made), name)
                self.assertEqual(parameters(vars(made)[method]), f"self {row}".strip(), (name, method))

    def test_constants(self):
        for module, name, value in CONSTANTS:
            self.assertEqual(getattr(module, name), value)
            self.assertIs(getattr(module, name).__class__, int)

    def test_attributes_are_there_from_the_beginning(self):
        for make, names in ATTRIBUTES:
            for name in names.split():
                self.assertTrue(hasattr(make(), name), name)

    def test_kinds_of_values(self):
        self.assertIsInstance(BOTH.size, int)
        sieve, hearsay, run = groups.Sieve(LINE), words.Hearsay(LINE), runs.Run(TELL, LINE, (0, 1))
        pair, drive = LINE.part((0, 2)), steering.Drive(TELL, LINE, (0, 2), (0, 1))
        gathering, table, line = families.Gathering(2), desk.Desk(), shell.Shell()
        for value in (BOTH.heard, BOTH.roots, BOTH.parts, BOTH.parts[0], BOTH.hears(0), BOTH.reached(0), LINE.webs, LINE.roots,
                      LINE.roots[0], LINE.always, sieve.left, hearsay.word, hearsay.known, hearsay.known[0], hearsay.heralds,
                      hearsay.go(0), hearsay.undo(), run.inputs, run.word, run.configuration, run.decisions, run.since,
                      run.go(0), run.follow((0,)), run.undo(), TELL.starts, links.links_in(LINE, (0, 1, 2)),
                      links.parts_of(LINE, (0, 2)), links.linked_way(LINE, (0, 1, 2), 0, 2), groups.splitting(LINE),
                      groups.closed_groups(LINE), groups.obstacle(LINE), groups.agreement_paper(pools.star_pool(3)),
                      words.known_inputs(LINE, (0,)), words.heard_by_all(LINE, (0,)), words.stall(LINE, 0),
                      views.equal_views(LINE, (0,), (1,)), views.view_counts(LINE, 1), views.same_sight(LINE, 1, 0, (0,)),
                      lots.lots_of(LINE, 1), lots.lots_of(LINE, 1)[0], lots.lot_heralds(LINE, 1), lots.bar(LINE, 1),
                      lots.lot_way(LINE, (0,), (1,)), runs.first_configuration(TELL, (0, 1)),
                      checks.configurations(TELL, LINE, (0, 1)), checks.found_fault(TELL, LINE), drive.group, drive.inputs,
                      drive.word, drive.ahead, drive.choices, drive.go(0), drive.undo(), steering.open_inputs(TELL, LINE, (0,)),
                      steering.decisions_ahead(TELL, LINE, (0, 1), (0,), ()), steering.driven_fault(TELL, LINE, (1,)),
                      families.agreeing_groups(LINE), families.greatest_agreeing(LINE), families.least_failing(LINE),
                      families.strikes(LINE), families.twin_numbers(LINE, LINE), gathering.put(BOTH), gathering.webs,
                      gathering.groups, gathering.drop(0), gathering.undo(), table.enter("a", LINE), table.enter("a", LINE),
                      table.enter("a", pair)[0], table.pin(("able", "a")), table.pins, table.pins[0], table.trial(), table.undo(),
                      table.redo(), table.merge("b", "a", "a"), table.remove("b"), table.unpin(("able", "a"))):
            self.assertIs(value.__class__, tuple)
        for value in (sieve.verdict, sieve.ban(0), sieve.let(0), sieve.undo(), groups.can_agree(LINE),
                      groups.is_closed(LINE, (0,)), links.alike(BOTH, BOTH, BOTH), lots.agree_in(LINE, 1), checks.is_right(TELL, LINE),
                      steering.is_open(TELL, LINE, (0, 1), (0,), ())):
            self.assertIs(value.__class__, bool)
        for value in (TELL.moves, TELL.decisions, views.view_numbers(LINE, 1), checks.right_paper(TELL, pair),
                      table.pools, table.grades):
            self.assertIs(value.__class__, dict)
        for value in (words.latest(LINE.part((0, 2)), 0), words.first_round(LINE, (0,), 0), lots.least_rounds(pools.star_pool(3)),
                      views.first_difference(LINE, (0,), (1,), 0), TELL.after(0, (0, None)), TELL.size, TELL.states,
                      checks.slowest(TELL, pair), drive.keep()):
            self.assertIs(value.__class__, int)
        for value in (makers.made_program(pair, 1), makers.herald_program(pair, 0)):
            self.assertIs(value.__class__, programs.Program)
        for value in (line("names"), line(None), texts.write_pool(LINE), texts.write_program(TELL), str(line), str(drive)):
            self.assertIs(value.__class__, str)


if __name__ == "__main__":
    unittest.main()
