"""Papers marked with classes of a scheme whose editions change."""
