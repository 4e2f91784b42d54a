"""Asnevertold: a house of data that forgets a person as if that one had never been told."""
