"""Point 29: texts of sites and of lists of deeds."""

import copy
import random
import re
import unittest

from ledelsewhere.errors import InvalidSite, InvalidText
from ledelsewhere.rules import all_rules
from ledelsewhere.sites import Site
from ledelsewhere.standings import deeds
from ledelsewhere.texts import format_deeds, format_site, parse_deeds, parse_site
from tests.helpers import made_site, same

HEAD = "bits in out\nstart home\nkeep 3\n"
DESK = "page desk loads\nenter\nif in\nask\nelse\nrefuse\nend\nelse\nlead home\nend\nset out off\nleave\nset in on\nrefuse\n"
HOME = "page home\nenter\nleave\n"
ENTER = (("if", "in", (("ask", (), (("refuse",),)),), (("lead", "home"),)), ("set", "out", False))
LEAVE = (("set", "in", True), ("refuse",))
# Each of these words may be a name, too.
WORDS = ("page", "enter", "leave", "if", "ask", "else", "end", "set", "on", "off", "lead", "refuse", "loads", "bits",
         "start", "keep")
DEED_WORDS = ("click", "back", "forward", "answer", "load", "late", "flip", "yes", "no")


def line_of(text, parse=parse_site):
    """The line of the InvalidText that is raised, or None if none is."""
    try:
        parse(text)
    except InvalidText as wrong:
        return wrong.line
    except InvalidSite:
        return None
    return None


def fits(form, line):
    """True if the whole line has the form, where N stands for a name."""
    return re.fullmatch(form.replace("N", "[a-z]{1,8}"), line) is not None


def letters_of(lines):
    """The forms of the lines, one letter each; x has none."""
    forms = (
        ("B", "bits( N)*"), ("S", "start N"), ("K", "keep [234]"), ("P", "page N( loads)?"), ("E", "enter"),
        ("L", "leave"), ("o", "if N|ask"), ("e", "else"), ("d", "end"), ("r", "set N (on|off)|refuse|lead N"),
    )
    return "".join(next((letter for letter, form in forms if fits(form, line)), "x") for line in lines)


def without_whole_rows(letters):
    """The letters with each if row and ask row that has its end as one row."""
    shorter = re.sub("or*er*d", "r", letters)
    return letters if shorter == letters else without_whole_rows(shorter)


def may_begin(letters):
    """True if some text begins so."""
    rest = "r*(or*(er*)?)*"
    form = f"(|B|BS|BSK((PEr*Lr*)*(P?|PE{rest}|PEr*L{rest})))"
    return re.fullmatch(form, without_whole_rows(letters)) is not None


def may_be_all(letters):
    """True if some text is so."""
    return re.fullmatch("BSK(PEr*Lr*)*", without_whole_rows(letters)) is not None


def wrong_line(text):
    """The number of the first line that is not allowed, or None."""
    if not text or text[-1] != "\n":
        return 0
    letters = letters_of(text.split("\n")[:-1])
    for many in range(1, len(letters) + 1):
        if not may_begin(letters[:many]):
            return many
    return None if may_be_all(letters) else len(letters) + 1


class TestFormatSite(unittest.TestCase):
    def test_all_forms_of_rows(self):
        site = Site(("in", "out"), (("desk", (ENTER, LEAVE, True)), ("home", ((), (), False))), "home", keep=3)
        self.assertEqual(format_site(site), HEAD + DESK + HOME)

    def test_without_bits(self):
        site = Site((), (("a", ((("ask", (), ()),), (), False)), ("b", ((), (("ask", (), ()),), True))), "b")
        text = "bits\nstart b\nkeep 4\npage a\nenter\nask\nelse\nend\nleave\npage b loads\nenter\nleave\nask\nelse\nend\n"
        self.assertEqual(format_site(site), text)
        self.assertEqual(parse_site(text), site)


class TestParseSite(unittest.TestCase):
    def test_all_forms_of_rows(self):
        site = parse_site(HEAD + DESK + HOME)
        self.assertTrue(same(site.bits, ("in", "out")))
        self.assertTrue(same(site.pages, (("desk", (ENTER, LEAVE, True)), ("home", ((), (), False)))))
        self.assertTrue(same((site.start, site.keep), ("home", 3)))

    def test_drawn_sites_come_back(self):
        source = random.Random(29)
        for at in range(400):
            site = made_site(source, most_rows=8)
            again = parse_site(format_site(site))
            self.assertEqual(again, site)
            self.assertTrue(same((again.bits, again.pages, again.start, again.keep), (site.bits, site.pages, site.start, site.keep)))

    def test_each_keep_comes_back(self):
        for keep in (2, 3, 4):
            site = Site((), (("a", ((), (), False)), ("b", ((), (), True))), "b", keep=keep)
            self.assertTrue(same(parse_site(format_site(site)).keep, keep))

    def test_words_of_the_text_may_be_names(self):
        for word in WORDS:
            rows = (("if", word, (("set", word, False),), ()), ("lead", word))
            site = Site((word,), ((word, (rows, (("set", word, True),), True)), ("b", ((), (), False))), word)
            self.assertEqual(parse_site(format_site(site)), site)

    def test_names_and_words_are_told_apart(self):
        self.assertEqual(line_of(HEAD + "page loads\nenter\nleave\n"), None)
        self.assertEqual(line_of(HEAD + "page loads loads\nenter\nleave\n"), None)
        self.assertEqual(line_of(HEAD + "page loads loads loads\nenter\nleave\n"), 4)
        self.assertEqual(line_of(HEAD + "page loads late\nenter\nleave\n"), 4)

    def test_no_text_and_no_last_newline(self):
        text = HEAD + DESK + HOME
        for wrong in ("", "bits", text[:-1], "x", " ", "\n\nx", text + " ", text + "\t"):
            self.assertEqual(line_of(wrong), 0, wrong)

    def test_a_last_newline_is_looked_for_first(self):
        self.assertEqual(line_of("wrong\nwrong"), 0)

    def test_empty_lines(self):
        self.assertEqual(line_of("\n"), 1)
        self.assertEqual(line_of("\n\n"), 1)
        text = HEAD + DESK + HOME
        self.assertEqual(line_of(text + "\n"), text.count("\n") + 1)
        self.assertEqual(line_of("\n" + text), 1)

    def test_texts_that_end_too_early(self):
        text = HEAD + DESK + HOME
        lines = text.splitlines(keepends=True)
        # After the head, and where a page has ended, it is the site that is wrong.
        whole = {3, 15, 16, 17, 20}
        for many in range(1, len(lines) + 1):
            expected = None if many in whole else many + 1
            self.assertEqual(line_of("".join(lines[:many])), expected, many)

    def test_three_lines_are_a_site_without_pages(self):
        with self.assertRaises(InvalidSite) as caught:
            parse_site("bits in\nstart home\nkeep 4\n")
        self.assertEqual((caught.exception.part, caught.exception.path), ("pages", ()))
        with self.assertRaises(InvalidSite) as caught:
            parse_site("bits in in\nstart home\nkeep 4\n")
        self.assertEqual((caught.exception.part, caught.exception.path), ("bits", ()))

    def test_the_first_three_lines(self):
        rest = HOME + DESK
        for line in ("bit in", "bits  in", "bits in ", " bits in", "bits In", "bits in\tout", "bits ninelette", "start home"):
            self.assertEqual(line_of(f"{line}\nstart home\nkeep 4\n{rest}"), 1, line)
        for line in ("start", "start ", "start home home", "begin home", "start Home", "start  home", "keep 4", ""):
            self.assertEqual(line_of(f"bits in\n{line}\nkeep 4\n{rest}"), 2, line)
        for line in ("keep", "keep 1", "keep 5", "keep 04", "keep 44", "keep  4", "keep 4 ", "keep four", "keep -2", "kept 4", "page home"):
            self.assertEqual(line_of(f"bits in\nstart home\n{line}\n{rest}"), 3, line)

    def test_names_are_1_to_8_letters_from_a_to_z(self):
        for name in ("a", "z", "abcdefgh", "zzzzzzzz"):
            self.assertIsNone(line_of(f"bits {name}\nstart {name}\nkeep 2\npage {name}\nenter\nif {name}\nelse\nend\nleave\n"))
        for name in ("", "abcdefghi", "A", "a1", "a-b", "a_b", "1", "`", "{", "a.b"):
            lines = ["bits", "start a", "keep 2", "page a", "enter", "leave"]
            for at, line in ((0, "bits {}"), (1, "start {}"), (3, "page {}"), (3, "page {} loads")):
                spoiled = lines[:at] + [line.format(name)] + lines[at + 1:]
                self.assertEqual(line_of("\n".join(spoiled) + "\n"), at + 1, (line, name))
            for line in ("if {}", "set {} on", "lead {}"):
                spoiled = lines[:5] + [line.format(name), "else", "end"] + lines[5:]
                self.assertEqual(line_of("\n".join(spoiled) + "\n"), 6, (line, name))

    def test_lines_that_look_like_rows(self):
        wrong = (
            "refuse now", "refuse ", " refuse", "refused", "lead", "lead a b", "lead  a", "set in", "set in yes", "set in on on",
            "set on", "set in On", "set  in on", "set\tin on", "if", "if in out", "if in ", "ask in", "ask ", "else ", "end ",
            "sat in on", "led a", "of in", "Ask", "in", "loads", "\t", " ", "enter ", "leave ", "else if", "end end",
        )
        for line in wrong:
            self.assertEqual(line_of(HEAD + f"page desk\nenter\nask\n{line}\nelse\nend\nleave\n"), 7, line)
            self.assertEqual(line_of(HEAD + f"page desk\nenter\nleave\n{line}\n"), 7, line)

    def test_lines_in_wrong_places(self):
        self.assertEqual(line_of(HEAD + "enter\n"), 4)
        self.assertEqual(line_of(HEAD + "leave\n"), 4)
        self.assertEqual(line_of(HEAD + "refuse\n"), 4)
        self.assertEqual(line_of(HEAD + "page a\npage b\n"), 5)
        self.assertEqual(line_of(HEAD + "page a\nleave\n"), 5)
        self.assertEqual(line_of(HEAD + "page a\nrefuse\n"), 5)
        self.assertEqual(line_of(HEAD + "page a\nenter\nenter\n"), 6)
        self.assertEqual(line_of(HEAD + "page a\nenter\npage b\n"), 6)
        self.assertEqual(line_of(HEAD + "page a\nenter\nelse\n"), 6)
        self.assertEqual(line_of(HEAD + "page a\nenter\nend\n"), 6)
        self.assertEqual(line_of(HEAD + "page a\nenter\nask\nend\n"), 7)
        self.assertEqual(line_of(HEAD + "page a\nenter\nask\nleave\n"), 7)
        self.assertEqual(line_of(HEAD + "page a\nenter\nask\nenter\n"), 7)
        self.assertEqual(line_of(HEAD + "page a\nenter\nask\nelse\nelse\n"), 8)
        self.assertEqual(line_of(HEAD + "page a\nenter\nask\nelse\nleave\n"), 8)
        self.assertEqual(line_of(HEAD + "page a\nenter\nask\nelse\nask\nend\n"), 9)
        self.assertEqual(line_of(HEAD + "page a\nenter\nask\nelse\nend\nend\n"), 9)
        self.assertEqual(line_of(HEAD + "page a\nenter\nask\nelse\nend\nelse\n"), 9)
        self.assertEqual(line_of(HEAD + "page a\nenter\nleave\nleave\n"), 7)
        self.assertEqual(line_of(HEAD + "page a\nenter\nleave\nenter\n"), 7)
        self.assertEqual(line_of(HEAD + "page a\nenter\nleave\nask\npage b\n"), 8)
        self.assertEqual(line_of(HEAD + "page a\nenter\nleave\nask\nelse\npage b\n"), 9)
        self.assertEqual(line_of(HEAD + "page a\nenter\nleave\nbits\n"), 7)
        self.assertEqual(line_of(HEAD + "page a\nenter\nleave\nstart a\n"), 7)
        self.assertEqual(line_of(HEAD + "page a\nenter\nleave\nkeep 3\n"), 7)

    def test_allowed_lines_of_sites_that_are_not_valid(self):
        second = "page b\nenter\nleave\n"
        cases = (
            ("page a\nenter\nleave\nlead b\n" + second, ("rows", ("a", "leave", (0,)))),
            ("page a\nenter\nlead c\nleave\n" + second, ("rows", ("a", "enter", (0,)))),
            ("page a\nenter\nrefuse\nif no\nelse\nend\nleave\n" + second, ("rows", ("a", "enter", (1,)))),
            ("page a\nenter\nleave\nset no on\n" + second, ("rows", ("a", "leave", (0,)))),
            ("page a\nenter\n" + "refuse\n" * 9 + "leave\n" + second, ("many", ("a", "enter", ()))),
            (second + second, ("pages", ())),
            (second, ("pages", ())),
            ("page a\nenter\nleave\n" + second, ("start", ())),
        )
        for rest, expected in cases:
            with self.assertRaises(InvalidSite) as caught:
                parse_site("bits in\nstart c\nkeep 2\n" + rest)
            self.assertTrue(same((caught.exception.part, caught.exception.path), expected), rest)
        with self.assertRaises(InvalidSite) as caught:
            parse_site("bits a b c d\nstart c\nkeep 2\n" + second)
        self.assertEqual(caught.exception.part, "bits")

    def test_200_rows_inside_each_other(self):
        for opening in ("ask\n", "if in\n"):
            for opened, ended in ((opening, "else\nend\n"), (opening + "else\n", "end\n")):
                text = HEAD + "page desk\nenter\n" + opened * 200 + "refuse\n" + ended * 200 + "leave\n" + HOME
                with self.assertRaises(InvalidSite) as caught:
                    parse_site(text)
                branch = 1 if "else" in opened else 0
                position = (0, branch, 0, branch, 0, branch, 0)
                self.assertEqual((caught.exception.part, caught.exception.path), ("rows", ("desk", "enter", position)))
                # One end too many, and one too few.
                lines = text.count("\n")
                self.assertEqual(line_of(text.replace("leave\n", "end\nleave\n", 1)), lines - 3)
                self.assertEqual(line_of(text.replace("end\nleave\n", "leave\n", 1)), lines - 4)

    def test_spoiled_texts(self):
        source = random.Random(290)
        lines_of_all = [form for form in ("bits in", "start home", "keep 4", "page home", "page home loads", "enter", "leave",
                        "if in", "ask", "else", "end", "set in on", "refuse", "lead home", "", " ", "\t", "page", "no such line")]
        found = {}
        for at in range(1500):
            lines = format_site(made_site(source, most_rows=6)).split("\n")[:-1]
            for _ in range(source.randint(1, 2)):
                self.spoil(source, lines, lines_of_all)
            text = "".join(line + "\n" for line in lines)
            if source.randint(0, 30) == 0:
                text = text[:source.randint(0, len(text))]
            expected = wrong_line(text)
            self.assertEqual(line_of(text), expected, text)
            kind = "fine" if expected is None else "end" if expected > len(lines) else "line"
            found[kind] = found.get(kind, 0) + 1
        # All three happen often enough to say much.
        self.assertTrue(min(found.values()) >= 20 and len(found) == 3, found)

    def spoil(self, source, lines, others):
        """Puts a line in, leaves one out, doubles, moves or changes one."""
        at = source.randrange(len(lines)) if lines else 0
        how = source.choice(("in", "out", "double", "move", "blank", "tab", "swap", "cut"))
        if how == "in" or not lines:
            lines.insert(at, source.choice(others))
        elif how == "out":
            del lines[at]
        elif how == "double":
            lines.insert(at, lines[at])
        elif how == "move":
            lines.insert(source.randrange(len(lines)), lines.pop(at))
        elif how == "blank":
            place = source.randint(0, len(lines[at]))
            lines[at] = lines[at][:place] + " " + lines[at][place:]
        elif how == "tab":
            lines[at] = lines[at].replace(" ", "\t", 1)
        elif how == "swap":
            other = source.randrange(len(lines))
            lines[at], lines[other] = lines[other], lines[at]
        else:
            del lines[at:]


class TestDeeds(unittest.TestCase):
    KNOWN = [
        ("click", "a"), ("back",), ("forward",), ("answer", True), ("answer", False), ("load", True), ("load", False),
        ("late", 0, True), ("late", 0, False), ("late", 1, True), ("late", 1, False), ("flip", "abcdefgh"),
    ]
    LINES = [
        "click a", "back", "forward", "answer yes", "answer no", "load yes", "load no", "late 0 yes", "late 0 no",
        "late 1 yes", "late 1 no", "flip abcdefgh",
    ]

    def test_all_forms(self):
        text = "\n".join(self.LINES) + "\n"
        self.assertEqual(format_deeds(self.KNOWN), text)
        self.assertTrue(same(parse_deeds(text), self.KNOWN))

    def test_no_deeds(self):
        self.assertEqual(format_deeds([]), "")
        self.assertEqual(parse_deeds(""), [])

    def test_deeds_of_sites_come_back(self):
        source = random.Random(30)
        for rule in all_rules():
            known = deeds(made_site(source))
            drawn = [source.choice(known) for _ in range(source.randint(0, 30))]
            self.assertTrue(same(parse_deeds(format_deeds(drawn)), drawn))
        self.assertTrue(same(parse_deeds(format_deeds(known)), known))

    def test_any_names_are_allowed(self):
        for word in WORDS + DEED_WORDS:
            given = [("click", word), ("flip", word)]
            self.assertEqual(parse_deeds(format_deeds(given)), given)

    def test_the_last_newline(self):
        for text in ("back", "wrong", "back\nback", "\nback", " ", "back\n "):
            self.assertEqual(line_of(text, parse_deeds), 0, text)

    def test_lines_without_a_form(self):
        wrong = (
            "", " ", "\t", "click", "click ", "click a b", "click A", "click abcdefghi", "click  a", " click a", "click a ",
            "click\ta", "click a1", "back a", "back ", "Back", "backs", "forward forward", "answer", "answer maybe", "answer True",
            "answer yes no", "answer  yes", "load", "load on", "load 1", "load no ", "late", "late 0", "late yes", "late 2 yes",
            "late -1 yes", "late 00 yes", "late 0 true", "late 0 yes yes", "late  0 yes", "late 0  yes", "late yes 0", "flip",
            "flip In", "flip in on", "answer a", "flop a", "yes", "set in on", "#", "late a yes",
        )
        for line in wrong:
            self.assertEqual(line_of(line + "\n", parse_deeds), 1, line)
            self.assertEqual(line_of("back\nlate 1 no\n" + line + "\nwrong\n", parse_deeds), 3, line)

    def test_spoiled_texts(self):
        source = random.Random(31)
        forms = "(click|flip) N|back|forward|(answer|load) (yes|no)|late [01] (yes|no)"
        signs = "abyeso nt01 \t\n-"
        seen = {}
        for at in range(1500):
            text = "".join(line + "\n" for line in source.choices(self.LINES, k=source.randint(1, 5)))
            for _ in range(source.randint(0, 2)):
                place = source.randint(0, len(text))
                text = text[:place] + source.choice(signs) + text[place + source.randint(0, 1):]
            expected = None
            if text and text[-1] != "\n":
                expected = 0
            else:
                numbers = [number for number, line in enumerate(text.split("\n")[:-1], 1) if not fits(forms, line)]
                expected = numbers[0] if numbers else None
            self.assertEqual(line_of(text, parse_deeds), expected, text)
            seen[expected] = True
        self.assertTrue({None, 0, 1, 2, 3, 4} <= set(seen))


class TestArguments(unittest.TestCase):
    def test_nothing_is_changed(self):
        given = [("click", "a"), ("late", 0, True)]
        before = copy.deepcopy(given)
        format_deeds(given)
        self.assertEqual(given, before)

    def test_a_returned_list_is_new(self):
        first = parse_deeds("back\nback\n")
        first.append("more")
        self.assertEqual(parse_deeds("back\nback\n"), [("back",), ("back",)])
        empty = parse_deeds("")
        empty.append("more")
        self.assertEqual(parse_deeds(""), [])
