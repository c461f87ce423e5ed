"""Names of kinds and rules, and the words that can't be names."""

# Written out, since islower and isalpha take letters beyond a to z as well.
LETTERS = "abcdefghijklmnopqrstuvwxyz"

LONGEST = 8

KEPT_WORDS = ("start", "rule", "row", "mix", "many", "any", "kind", "not", "both", "either", "way", "mark")


def is_name(text):
    if not isinstance(text, str) or text in KEPT_WORDS:
        return False
    if len(text) == 0 or len(text) > LONGEST:
        return False
    return all([sign in LETTERS for sign in text])
