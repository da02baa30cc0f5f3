"""Changed texts, for the tests of what is parsed."""


def changed_texts(text, characters):
    """Yield the text with one character put in, taken out, replaced, or moved."""
    for at in range(len(text) + 1):
        for character in characters:
            yield text[:at] + character + text[at:]
            if at < len(text):
                yield text[:at] + character + text[at + 1:]
        if at < len(text):
            rest = text[:at] + text[at + 1:]
            yield rest
            for place in range(len(rest) + 1):
                yield rest[:place] + text[at] + rest[place:]
