"""Wires on two layers, with the fewest vias: see viaboard.board.answers."""
