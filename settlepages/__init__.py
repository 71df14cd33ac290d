"""Settlepages: texts that change how they are read, and pages that come to rest."""
