"""Blockpages: pages made of elder pages with their blocks filled anew."""
