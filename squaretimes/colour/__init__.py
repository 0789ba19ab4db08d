"""Tables of colours, which signs make formulas, and bars by binomials."""
