"""Items of a script that can be left out, or exchanged."""

from twobesides.checks import check_script
from twobesides.tables import joined, own_table, script_tables


def needless_items(named, script):
    """Return the ascending tuple of the indices of all needless items of a script."""
    check_script(named, script)
    tables = item_tables(named, script)
    heads, tails = heads_of(named, tables), tails_of(named, tables)
    return tuple(index for index in range(len(script)) if joined(heads[index], tails[index + 1]) == tails[0])


def spared_script(named, script):
    """Return the spared script of a script."""
    check_script(named, script)
    tables = item_tables(named, script)
    tails = tails_of(named, tables)
    head = own_table(named)
    spared = []
    for index, item in enumerate(script):
        # What has been left out was needless: the whole table is still that of the script.
        if joined(head, tails[index + 1]) != tails[0]:
            spared.append(item)
            head = joined(head, tables[index])
    return tuple(spared)


def exchanged_items(named, script):
    """Return the ascending tuple of the indices of items that can be exchanged with the next one."""
    check_script(named, script)
    tables = item_tables(named, script)
    heads, tails = heads_of(named, tables), tails_of(named, tables)
    told = []
    for index in range(len(script) - 1):
        exchanged = joined(tables[index + 1], tables[index])
        if joined(joined(heads[index], exchanged), tails[index + 2]) == tails[0]:
            told.append(index)
    return tuple(told)


def item_tables(named, script):
    """Return the list of the tables of all items of a script, each as a script of its own."""
    return script_tables(named, [(item,) for item in script])


def heads_of(named, tables):
    """Return the list of the tables of as many first items as the index tells."""
    heads = [own_table(named)]
    for table in tables:
        heads.append(joined(heads[-1], table))
    return heads


def tails_of(named, tables):
    """Return the list of the tables of all items from the index on."""
    tails = [own_table(named)]
    for table in tables[::-1]:
        tails.append(joined(table, tails[-1]))
    return tails[::-1]
