"""Doubthall: what stands when guesses may be doubted."""
