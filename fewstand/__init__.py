"""Fewstand: few lots that stand for all."""
