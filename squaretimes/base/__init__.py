"""What all stages stand on: integers, ratios, tables and parities."""
