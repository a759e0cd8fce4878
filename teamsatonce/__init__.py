"""Teams at once: several teams act in one house, and which mixings of their acts come to the same."""
