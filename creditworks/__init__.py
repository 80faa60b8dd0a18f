"""Creditworks: things whose dear deeds are paid for ahead."""
