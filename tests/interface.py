"""The functions of the interface, by their files, with their parameters."""

PARAMETERS = {
    "words": {
        "letters": ["rank"],
        "is_word": ["rank", "thing"],
        "inverse": ["rank", "word"],
        "reduce_text": ["rank", "text"],
        "product": ["rank", "one", "other"],
    },
    "rings": {
        "is_ring": ["rank", "thing"],
        "is_row": ["rank", "thing"],
        "ring_of": ["rank", "word"],
    },
    "substitutions": {
        "image": ["rank", "substitution", "word"],
        "compose": ["rank", "outer", "inner"],
        "is_automorphism": ["rank", "substitution"],
        "undo": ["rank", "substitution"],
        "apply": ["rank", "substitution", "row"],
    },
    "steps": {
        "is_step": ["rank", "thing"],
        "moves": ["rank"],
        "undo_step": ["rank", "step"],
        "substitution_of": ["rank", "step"],
        "total": ["rank", "route"],
        "step_row": ["rank", "row", "step"],
        "walk": ["rank", "row", "route"],
        "factor": ["rank", "substitution"],
    },
    "graphs": {
        "edges": ["rank", "row"],
        "degree": ["rank", "row", "letter"],
        "cut": ["rank", "row", "side"],
        "change": ["rank", "row", "step"],
        "components": ["rank", "row"],
    },
    "flows": {
        "least_cut": ["rank", "row", "letter"],
        "paths": ["rank", "row", "letter"],
        "certificate": ["rank", "row"],
        "check_certificate": ["rank", "row", "thing"],
    },
    "minimal": {
        "is_minimal": ["rank", "row"],
        "shorten": ["rank", "row"],
        "reduce_row": ["rank", "row"],
        "least_length": ["rank", "row"],
    },
    "levels": {
        "canonical": ["rank", "row"],
        "neighbours": ["rank", "row"],
        "level": ["rank", "row"],
        "is_closed": ["rank", "thing"],
    },
    "verdicts": {
        "equivalent": ["rank", "one", "other"],
        "check_verdict": ["rank", "one", "other", "thing"],
    },
    "separation": {
        "separate": ["rank", "row"],
        "check_separation": ["rank", "row", "thing"],
        "primitive": ["rank", "word"],
        "check_primitive": ["rank", "word", "thing"],
    },
    "shadows": {
        "exponents": ["rank", "word"],
        "matrix": ["rank", "substitution"],
        "determinant": ["rank", "substitution"],
        "value": ["rank", "tables", "word"],
        "trace": ["rank", "tables", "word"],
        "carried": ["rank", "tables", "substitution"],
    },
    "rank_two": {
        "pair_ring": ["pair"],
        "sign": ["substitution"],
    },
    "census": {
        "least_rings": ["rank", "size"],
        "orbits": ["rank", "size"],
    },
    "texts": {
        "row_text": ["rank", "row"],
        "substitution_text": ["rank", "substitution"],
        "route_text": ["rank", "route"],
        "row_in": ["rank", "text"],
        "substitution_in": ["rank", "text"],
        "route_in": ["rank", "text"],
    },
}
