"""Ringleast: cyclic words, invertible substitutions and shortest representatives."""
