"""What is far in a tree: its pairs of places, its middle and its sums."""
