"""Parts of lots at products, and the tables that they tell."""
