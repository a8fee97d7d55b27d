"""Runs of a day in one world."""

from hadnot.scenes import Page, Scene
from hadnot.steps import Ending, ended
from hadnot.views import View


def run(day, world):
    """The view of a day in a world."""
    full = day.choices.full(world)
    pages = [beginning(day, full)]
    endings = {}
    were_done = {}
    for deed in day.deeds:
        page = pages[-1]
        ending = Ending(False, False, (), None)
        if has_options(full, deed.only):
            option = 0 if deed.choice is None else full[deed.choice]
            scene = Scene(day, full, page.copied(), were_done)
            ending = ended(deed.sayings[option], left_out(deed, option, full), scene)
            if ending.fault is None:
                page = scene.page
        pages.append(page)
        endings[deed.name] = ending
        if ending.was_done:
            were_done[deed.name] = True
    return View(day, full, pages, endings)


def beginning(day, world):
    """The page of the beginning."""
    cells = {}
    for name, value in day.all_cells.items():
        if isinstance(value, tuple):
            choice, values = value
            value = values[world[choice]]
        if value is not None:
            cells[name] = value
    tables = {table: {} for table in day.all_tables}
    for (table, key), (values, only) in day.all_rows.items():
        if has_options(world, only):
            tables[table][key] = values
    return Page(cells, tables)


def left_out(deed, option, world):
    """The numbers of the rows that are left out of the saying of a deed for an option, as the keys of a dict."""
    if deed.opened != option:
        return {}
    return {row: True for row, name in enumerate(deed.row_choices()) if world[name] == 1}


def has_options(world, pairs):
    """Whether a world has all options of some pairs."""
    return all([world[choice] == option for choice, option in pairs])
