"""Spanrows: spans of rows under inserted and deleted rows."""
