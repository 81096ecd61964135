"""Orders of looks at lamps on a dimmer."""
