"""A plain book of the deeds at a bench, which makes its webs anew from the beginning each time."""
from things import tied_anew, turned, turned_about


class Book:
    def __init__(self):
        self.deeds = []

    def webs(self):
        kept = {}
        for deed, name, *handed in self.deeds:
            if deed == "put":
                kept[name] = handed[0]
            elif deed == "tie":
                kept[name] = tied_anew(kept[name], *handed)
            elif deed == "turn":
                kept[name] = turned(kept[name], handed[0])
            elif deed == "turn_about":
                kept[name] = turned_about(kept[name])
            else:
                del kept[name]
        return kept


def drawn_deed(source, kept, names, webs):
    """Some deed that can be done where these webs are kept."""
    name = source.choice(names)
    if name not in kept or source.randrange(8) == 0:
        return ("put", name, source.choice(webs))
    many = len(kept[name])
    deed = source.choice(("tie", "tie", "turn", "turn", "turn_about", "drop"))
    if deed == "tie" and many > 1:
        return ("tie", name) + tuple(source.sample(range(many), 2))
    if deed in ("tie", "turn"):
        return ("turn", name, tuple(sorted(source.sample(range(many), source.randrange(many + 1)))))
    return (deed, name)
