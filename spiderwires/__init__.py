"""Spiderwires: diagrams of spiders and wires with exact tables."""
