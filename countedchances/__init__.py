"""Learning chances by counting."""
