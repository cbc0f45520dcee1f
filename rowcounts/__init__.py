"""Set operations over tables with duplicates, judged for all tables."""
