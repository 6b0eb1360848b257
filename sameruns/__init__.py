"""Sameruns: a compiler with certificates, a linker and a machine."""
