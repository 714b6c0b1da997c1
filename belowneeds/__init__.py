"""Belowneeds: sheets filled down without end, whose cells may need the rows below."""
