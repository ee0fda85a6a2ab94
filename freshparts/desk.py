"""A desk keeps LIVES by names, is told rows and answers each with a text."""
from freshparts.counts import counts, many_by
from freshparts.errors import NoBeat, NoName, NoRow, TooMany
from freshparts.evening import even_paper
from freshparts.ever import share
from freshparts.lives import miss, short
from freshparts.making import behind, cut_at, later, left_of
from freshparts.means import mean, round_of
from freshparts.puts import puts
from freshparts.ratios import NOUGHT
from freshparts.standing import ages
from freshparts.texts import life_text, ratio_text, ratios_text, read_life, read_number

# What stands behind the first word of a row: "new" a name to keep by, "name" that of a kept one, "text" all the rest.
FORMS = {
    "life": ("new", "text"),
    "drop": ("name",),
    "names": (),
    "show": ("name",),
    "undo": (),
    "behind": ("new", "name", "name"),
    "cut": ("new", "name", "number"),
    "left": ("new", "name", "number"),
    "later": ("new", "name", "number"),
    "mean": ("name",),
    "share": ("name",),
    "round": ("name",),
    "miss": ("name",),
    "put": ("name", "number"),
    "many": ("name", "number"),
    "ages": ("name", "number"),
    "counts": ("name", "number"),
    "even": ("name", "number"),
}
BEATS = (0, 20)
# The least and the greatest number in the rows where they aren't those of BEATS.
BOUNDS = {"cut": (1, 12), "left": (0, 12), "later": (0, 4)}
MOST_LETTERS = 6
MOST_CHANCES = 12
MOST_BOTTOM = 999999999999
DONE = "ok"
NONE = "none"


class Desk:
    """LIVES kept by names, and what was kept ahead of each change, so that it can be taken back."""

    def __init__(self):
        self.kept = {}
        # For each keeping or dropping that isn't undone yet: the name, and the LIFE kept by it till then, or None.
        self.past = []

    def say(self, row):
        """Answer a row with a text."""
        parts = parts_of(row)
        if parts is None:
            raise NoRow(row)
        word, *rest = parts
        values = self.values_of(FORMS[word], rest)
        if word == "behind" and not (is_bounded(values[1]) and is_bounded(values[2])):
            raise NoRow(row)
        if "new" in FORMS[word]:
            return self.keep(rest[0], made(word, values))
        if word == "drop":
            return self.drop(rest[0])
        if word == "undo":
            return self.undo()
        if word == "names":
            return " ".join(sorted(self.kept)) if self.kept else "-"
        return told_at(word, values[0], values[1]) if "number" in FORMS[word] else told_of(word, values[0])

    def values_of(self, form, parts):
        """What each part stands for: the kept LIFE, the number, or itself; a list."""
        values = []
        for slot, part in zip(form, parts):
            if slot == "name" and part not in self.kept:
                raise NoName(part)
            if slot == "name":
                values.append(self.kept[part])
            else:
                values.append(read_number(part) if slot == "number" else part)
        return values

    def keep(self, name, life):
        """Keep the SHORT one of the LIFE by this name."""
        brief = short(life)
        if is_too_great(brief):
            raise TooMany("life")
        self.past.append((name, self.kept.get(name)))
        self.kept[name] = brief
        return life_text(brief)

    def drop(self, name):
        """Keep nothing by this name any longer."""
        self.past.append((name, self.kept[name]))
        del self.kept[name]
        return DONE

    def undo(self):
        """Take the last keeping or dropping back that isn't undone yet."""
        if not self.past:
            return NONE
        name, life = self.past.pop()
        if life is None:
            del self.kept[name]
        else:
            self.kept[name] = life
        return DONE


def parts_of(row):
    """The parts of a row, its first word and what its form tells behind it, a list; None where it is no such row."""
    word = row.partition(" ")[0]
    if word not in FORMS:
        return None
    form = FORMS[word]
    # A text may have blanks of its own: it is all that is left behind the blank ahead of it.
    parts = row.split(" ", len(form)) if "text" in form else row.split(" ")
    if len(parts) != len(form) + 1:
        return None
    fitting = [fits(word, slot, part) for slot, part in zip(form, parts[1:])]
    return parts if all(fitting) else None


def fits(word, slot, part):
    """Tell whether a part can stand in its slot of the row that begins with this word."""
    if slot == "text":
        return True
    if slot != "number":
        return is_name(part)
    number = read_number(part)
    least, most = BOUNDS.get(word, BEATS)
    return number is not None and least <= number <= most


def is_name(part):
    """Tell whether a part is a NAME."""
    return 1 <= len(part) <= MOST_LETTERS and all("a" <= sign <= "z" for sign in part)


def is_bounded(life):
    """Tell whether a LIFE is BOUNDED."""
    return life[1] == NOUGHT


def is_too_great(life):
    """Tell whether a SHORT LIFE is too long, or its bottoms too great, to be kept."""
    row, step = life
    return len(row) > MOST_CHANCES or any(chance[1] > MOST_BOTTOM for chance in (*row, step))


def made(word, values):
    """The LIFE that a row makes, by the values behind its first word."""
    if word == "life":
        return read_life(values[1])
    source, by = values[1:]
    if word == "behind":
        return behind(source, by)
    if word == "cut":
        return cut_at(source, by)
    return left_of(source, by) if word == "left" else later(source, by)


def told_of(word, life):
    """The answer to a row that asks something of a LIFE."""
    if word == "show":
        return life_text(life)
    if word == "round":
        return str(round_of(life))
    if word == "share":
        return ratio_text(share(life))
    if word == "miss":
        return ratio_text(miss(life))
    middle = mean(life)
    return NONE if middle is None else ratio_text(middle)


def told_at(word, life, beat):
    """The answer to a row that asks something of a LIFE and a beat."""
    if word == "put":
        return ratio_text(puts(life, beat)[beat])
    if word == "many":
        return ratio_text(many_by(life, beat))
    if word == "ages":
        return ratios_text(ages(life, beat))
    if word == "counts":
        return ratios_text(counts(life, beat))
    return even_text(life, beat)


def even_text(life, beat):
    """Low and high of the EVEN PAPER, where there is one."""
    if not is_bounded(life) or miss(life) != NOUGHT:
        return NONE
    try:
        paper = even_paper(life, beat)
    except NoBeat:
        return NONE
    return ratios_text(paper[1:])
