"""Groupcaps: units shared among items under nested limits."""
