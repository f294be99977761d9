"""Control of a far plant over bad channels with sensors that may lie."""
