"""Objects whose classes change while they are in use."""
