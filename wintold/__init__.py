"""Wintold: matches told back from the points they brought."""
