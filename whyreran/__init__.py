"""whyreran: what build logs tell about hidden dependencies."""
