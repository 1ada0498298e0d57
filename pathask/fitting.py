"""Whether a way of a web fits a pattern."""

from pathask.moves import BEGIN, END, by_stand, goes_along, laid_out


def fits(web, pattern, way):
    laid = laid_out(pattern)
    return goes_along(web, by_stand(laid[0], laid[1]), BEGIN, [END], way)
