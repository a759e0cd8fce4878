"""Teams at once: which mixings of teams' acts come to the same, and when teams on one path may begin."""
