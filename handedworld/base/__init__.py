"""Words, procedures and programs."""
