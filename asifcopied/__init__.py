"""Structures of records and pointers kept in all their versions, as if the whole heap were copied."""
