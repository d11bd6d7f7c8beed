"""Texts cut into tokens: "(", ")", and longest runs of characters other than the blank and these two."""

_PARTING = " ()"


def tokens_of(text):
    """The list of the text's tokens, each as a tuple: the token, and the index of its first character."""
    tokens = []
    start = 0
    # The blank behind the text ends the last run.
    for at, sign in enumerate(text + " "):
        if sign in _PARTING:
            if start < at:
                tokens.append((text[start:at], start))
            if sign != " ":
                tokens.append((sign, at))
            start = at + 1
    return tokens
