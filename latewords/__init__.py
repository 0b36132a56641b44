"""Latewords: held segments and delayed acknowledgments."""
