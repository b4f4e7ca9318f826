"""Class groups of drawings, and colourings."""
