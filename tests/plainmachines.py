"""What DOC.md says of machines, gone through by its words alone, and machines for the tests."""

from lookthrough.machines import Machine


def behind(letters, rows, word, at=0):
    """The number of the row that a word leads to."""
    for letter in word:
        at = rows[at][1][letters.index(letter)]
    return at


def unlike_rows(rows):
    """The pairs of rows of which some word tells one from the other."""
    many = range(len(rows))
    found = {(a, b) for a in many for b in many if rows[a][0] != rows[b][0]}
    grown = True
    while grown:
        more = {(a, b) for a in many for b in many if (a, b) not in found
                and any(pair in found for pair in zip(rows[a][1], rows[b][1]))}
        found |= more
        grown = bool(more)
    return found


def least_plainly(rows):
    """The least one's rows: by the first words that lead to rows unlike all that came ahead."""
    unlike = unlike_rows(rows)
    stood, fresh = [0], [0]
    while fresh:
        following = []
        for at in fresh:
            for to in rows[at][1]:
                if all((to, known) in unlike for known in stood):
                    stood.append(to)
                    following.append(to)
        fresh = following

    def number(at):
        return next(k for k, known in enumerate(stood) if (at, known) not in unlike)

    return [(rows[at][0], tuple(number(to) for to in rows[at][1])) for at in stood]


def lying_on_ways(rows):
    """The rows from which a way leads to another one and back."""
    many = range(len(rows))
    reach = {(a, to) for a in many for to in rows[a][1]}
    grown = True
    while grown:
        more = {(a, c) for a, b in reach for c in rows[b][1]} - reach
        reach |= more
        grown = bool(more)
    return [a for a in many if any(b != a and (a, b) in reach and (b, a) in reach for b in many)]


def some_rows(seed, many, letters, moves, spread=None):
    """Rows without ways back, in an order that tells nothing but where they begin."""
    order = list(range(1, many))
    seed.shuffle(order)
    places = [0, *order]
    rows = [None] * many
    for at in range(many):
        last = many - 1 if spread is None else min(many - 1, at + spread)
        tos = tuple(places[seed.randint(at, last)] for _ in letters)
        rows[places[at]] = (seed.choice(moves), tos)
    return rows


def chain(moves):
    """A machine of one letter that does these moves one after another, the last one for ever."""
    last = len(moves) - 1
    return Machine(["c"], [(move, (min(at + 1, last),)) for at, move in enumerate(moves)])


def pin(*letters):
    """A machine that does c, and d from where its letters come just so, level by level, or else e."""
    good, bad = len(letters), len(letters) + 1
    rows = [("c", tuple(at + 1 if letter == asked else bad for letter in "cdx")) for at, asked in enumerate(letters)]
    return Machine(["c", "d", "x"], [*rows, ("d", (good,) * 3), ("e", (bad,) * 3)])
