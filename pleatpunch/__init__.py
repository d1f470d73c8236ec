"""Pleatpunch: a strip is folded, punched and worn."""
