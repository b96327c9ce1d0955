"""Mergerates: partings of names that merge by rates, told exactly in integers and fractions."""
