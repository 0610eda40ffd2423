"""Programs that change, with promises that stay kept."""
