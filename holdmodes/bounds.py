"""The bounds of the numbers and lengths that the document names."""

MAX_ACTS = 6
MAX_DEEDS = 25
MAX_GROUPED = 6
MAX_HOLDERS = 4
MAX_MODES = 12
MAX_PLANNED = 20
MAX_RAISES = 8
MAX_STEPS = 8
MAX_THINGS = 12
