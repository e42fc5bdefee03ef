"""Early or late: told times by witnesses who err to one side."""
