"""Drawings of rows of colours, and reading them back."""

SIGNS = {"stop": ".", "ready": ":", "free": "|", "fade": "~"}
COLOURS = {".": "stop", ":": "ready", "|": "free", "~": "fade"}
MOST_LETTERS = 8
AHEAD = 9


def drawn_way(name, rows):
    signs = "".join([SIGNS[row[name]] for row in rows])
    return name.ljust(MOST_LETTERS) + " " + signs


def drawn(begin, rows):
    figures = "".join([str((begin + step) % 10) for step in range(len(rows))])
    texts = [" ".ljust(AHEAD) + figures]
    if rows:
        texts.extend([drawn_way(name, rows) for name in rows[0]])
    return texts


def undrawn(texts):
    rows = []
    for place in range(AHEAD, len(texts[0])):
        row = {}
        for text in texts[1:]:
            row[text[:MOST_LETTERS].rstrip()] = COLOURS[text[place]]
        rows.append(row)
    return rows
