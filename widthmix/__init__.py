"""Tables of widths and the settings that give wanted levels."""
