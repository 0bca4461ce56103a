"""Bedround: garden beds and crops that may or may not come again."""
