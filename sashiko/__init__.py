"""Sashiko: cloths sewn line by line, and what their seams close in."""
