"""Rules that tell how many boxes are wanted."""
