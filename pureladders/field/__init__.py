"""How tables and holes hang on the field."""
