"""Seenbefore: watchers of streams whose values are only compared with held ones."""
