"""How expressions, grammars and texts are written."""

# What is written for a text without tokens, and for other lists with nothing in them.
NOTHING = "-"


def show_expression(expression):
    """Return the expression as it is written."""
    kind = expression[0]
    if kind == "token":
        return expression[1]
    if kind == "block":
        return f"<{expression[1]}>"
    if kind == "sequence":
        return " ".join([show_part(part, ("sequence", "choice")) for part in expression[1:]])
    if kind == "choice":
        return " | ".join([show_part(part, ("choice",)) for part in expression[1:]])
    first, last = ("{", "}") if kind == "repeat" else ("[", "]")
    return f"{first} {show_expression(expression[1])} {last}"


def show_part(part, kinds):
    """Return a part as it is written, in brackets if it is of one of these kinds."""
    shown = show_expression(part)
    return f"( {shown} )" if part[0] in kinds else shown


def show_grammar(grammar):
    """Return the grammar as it is written, row by row."""
    rows = [f"item = {show_expression(grammar.item)}"]
    for name, first, last, inner in grammar.blocks:
        rows.append(f"{name} {first} {last} = {show_expression(inner)}")
    return "\n".join(rows)


def show_text(text):
    """Return the text as it is written."""
    return " ".join(text) if text else NOTHING
