"""Items of lists in lists and their marks."""
