"""Chairclans: a chair goes from clan to clan."""
