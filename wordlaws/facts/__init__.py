"""What follows from the states of points: facts on rows and points, fewest variables, forms of higher degree."""
