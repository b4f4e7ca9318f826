"""The bracket of a drawing, worked in several ways."""
