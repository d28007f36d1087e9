"""Pure tables, chains of them, weights against tables, and what tables tell."""
