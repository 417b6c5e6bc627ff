"""Pebbletoll: pebbles on a web whose roads take their toll."""
