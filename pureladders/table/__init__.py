"""Tables of fractions at places (step, degree)."""
