"""Rightfares: costs by which told alignments are best."""
