"""Reads and runs the examples of the document, kept in tests/examples."""

import importlib
import os
import pkgutil

import eachhandtied

FOLDER = os.path.join(os.path.dirname(__file__), "examples")


def files():
    return sorted(name for name in os.listdir(FOLDER) if name.endswith(".txt"))


def parted(text):
    """The list of (what is run, what is to come of it) of a text."""
    found = []
    for line in text.splitlines():
        if line.startswith(">>> "):
            found.append([line[4:], ""])
        elif line.strip():
            found[-1][1] += line
    return found


def names_of_package():
    """All functions and classes of the package by their names."""
    names = {}
    for told in pkgutil.iter_modules(eachhandtied.__path__):
        module = importlib.import_module("eachhandtied." + told.name)
        for name, worth in vars(module).items():
            if getattr(worth, "__module__", None) == module.__name__:
                names[name] = worth
    return names


def run(shown, wanted, names):
    """None if the example holds, else what came instead."""
    if not wanted:
        exec(shown, names)
        return None
    if not wanted.startswith("raises "):
        came = eval(shown, names)
        return None if repr(came) == repr(eval(wanted, names)) else repr(came)
    error = eval(wanted[len("raises "):], names)
    try:
        came = eval(shown, names)
    except Exception as raised:
        if type(raised) is type(error) and vars(raised) == vars(error):
            return None
        return "raised " + repr(raised)
    return repr(came)
