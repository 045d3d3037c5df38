"""Inningsbook: the book of a game with a bat, a ball and two wickets."""
