"""The words of a text that its forms leave free: names and figures."""

LETTERS = "abcdefghijklmnopqrstuvwxyz"
FIGURES = "0123456789"

# The words by which rows and bodies are told apart.
NO_NAMES = (
    "ask", "keeper", "def", "to", "note", "takes", "gives", "hears", "let", "be",
    "call", "keep", "go", "give", "tell", "if", "else", "case", "none", "more",
    "end", "empty", "put", "last", "num", "nums", "hold", "holds",
)


def only_of(text, signs):
    return all([sign in signs for sign in text])


def is_name(text):
    """True where the text is a name, else False."""
    return 1 <= len(text) <= 8 and only_of(text, LETTERS) and text not in NO_NAMES


def is_figures(text):
    """True where the text is a number as texts write it, else False."""
    if not 1 <= len(text) <= 9 or not only_of(text, FIGURES):
        return False
    return text == "0" or text[0] != "0"
