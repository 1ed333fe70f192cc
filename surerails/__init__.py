"""Surerails: a railway worked by what each signal box surely knows."""
