"""Labelframes: tables of labelled columns, and pipelines over them."""
