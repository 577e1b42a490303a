"""What one statement does to one row, whether it is executed alone, in a weaving or by the engine."""


def is_about_rows(statement):
    """Tell whether a statement looks at rows or holds them."""
    return statement.word == "look" or statement.mode is not None


def concerns(statement, name, values):
    """Tell whether a statement that sees these values, None for no row, has to do with the row of this name."""
    if statement.word == "put":
        return statement.name == name
    return values is not None and statement.condition(values, name)


def effect_of(statement, name, values):
    """Return what a statement does to a row that it reads with these values, None for no row.

    That is whether it writes the row, the values of the row behind it, and the values that it returns.
    """
    if statement.word == "put" and values is None:
        return True, statement.inserted, statement.inserted
    if statement.word == "put" and (statement.condition is None or not statement.condition(values, name)):
        return False, values, None
    if statement.word in ("put", "change"):
        fresh = statement.new_values(values)
        return True, fresh, fresh
    if statement.word == "remove":
        return True, None, values
    return False, values, values
