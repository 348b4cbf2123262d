"""A call room, and small chains of states, by exact fractions: see callroom.room.answers."""
