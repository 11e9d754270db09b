"""Sure parts: what every web of tables has in it."""
