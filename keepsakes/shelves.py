"""A shelf, which holds pieces by numbers (points 30 to 33)."""

from keepsakes.errors import NoPiece


class Shelf:
    def __init__(self):
        self.pieces = {}
        self.follows = 0

    def put(self, piece):
        number = self.follows
        self.lay(number, piece)
        return number

    def lay(self, number, piece):
        self.pieces[number] = piece
        self.follows = max(self.follows, number + 1)

    def piece(self, number):
        if number not in self.pieces:
            raise NoPiece(number)
        return self.pieces[number]

    def drop(self, number):
        piece = self.piece(number)
        self.pieces.pop(number)
        return piece

    def numbers(self):
        return sorted(self.pieces)

    def following(self):
        return self.follows

    def copied(self):
        # Pieces never change, so both shelves may hold the same ones.
        other = Shelf()
        other.pieces = dict(self.pieces)
        other.follows = self.follows
        return other

    def last_whole(self):
        days = [piece.day for piece in self.pieces.values() if piece.kind() == "whole" and piece.is_good()]
        return max(days, default=None)
