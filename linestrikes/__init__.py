"""Linestrikes: rules that solve line puzzles, judged for lines of every length."""
