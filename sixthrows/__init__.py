"""sixthrows: rules with short overlaps."""
