"""Facework: kinds found, parts that hide, and code in which no kinds are left."""
