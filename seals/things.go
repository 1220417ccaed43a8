package seals

import (
	"slices"

	"restante/api"
	"restante/reading"
)

// CheckThing returns the error of a thing.
func CheckThing(t api.Thing) api.Errno {
	if !within(t.Id, 1, api.MaxId) || !within(t.Day, 0, api.MaxDay) || len(t.Layers) == 0 {
		return api.ErrArg
	}
	if exceeds(t.Layers) {
		return api.ErrLimit
	}
	for _, layer := range t.Layers {
		if e := checkLayer(layer); e != api.OK {
			return e
		}
	}
	return api.OK
}

// exceeds reports whether there are too many layers, or too much in them.
func exceeds(layers []api.Layer) bool {
	if len(layers) > api.MaxLayers {
		return true
	}
	pieces := 0
	for _, layer := range layers {
		if len(layer.Pieces) > api.MaxOfLayer || len(layer.Goods) > api.MaxGoods {
			return true
		}
		pieces += len(layer.Pieces)
	}
	return pieces > api.MaxPieces
}

func checkLayer(layer api.Layer) api.Errno {
	for _, piece := range layer.Pieces {
		if piece.Kind < api.PieceToName || piece.Kind > api.PieceFromRegion {
			return api.ErrArg
		}
		if e := reading.CheckCells(piece.Cells); e != api.OK {
			return e
		}
	}
	before := "" // which every name is greater than
	for _, x := range layer.Goods {
		if !reading.IsName(x.Unit) || !within(x.N, 1, api.MaxN) || x.Unit <= before {
			return api.ErrArg
		}
		before = x.Unit
	}
	return api.OK
}

// Docket returns the kinds of the pieces of a layer.
func Docket(t api.Thing, layer int) ([]uint8, api.Errno) {
	if e := CheckThing(t); e != api.OK {
		return nil, e
	}
	if !within(layer, 1, len(t.Layers)) {
		return nil, api.ErrNone
	}
	return docketOf(t.Layers[layer-1]), api.OK
}

func docketOf(layer api.Layer) []uint8 {
	var kinds []uint8
	for _, piece := range layer.Pieces {
		kinds = append(kinds, piece.Kind)
	}
	return kinds
}

func docketsOf(t api.Thing) [][]uint8 {
	var dockets [][]uint8
	for _, layer := range t.Layers {
		dockets = append(dockets, docketOf(layer))
	}
	return dockets
}

// hasLook reports whether a look is one of the thing.
func hasLook(t api.Thing, l api.Look) bool {
	return within(l.Layer, 1, len(t.Layers)) && within(l.Piece, 0, len(t.Layers[l.Layer-1].Pieces)-1)
}

// looksOf returns all looks of a thing, in ascending order.
func looksOf(t api.Thing) []api.Look {
	var looks []api.Look
	for i, layer := range t.Layers {
		for piece := range layer.Pieces {
			looks = append(looks, api.Look{Layer: i + 1, Piece: piece})
		}
	}
	return looks
}

// pieceAt returns the piece of a look of the thing, which stays in the memory of the thing.
func pieceAt(t api.Thing, l api.Look) api.Piece { return t.Layers[l.Layer-1].Pieces[l.Piece] }

// copyOf returns a piece in new memory.
func copyOf(x api.Piece) api.Piece {
	y := api.Piece{Kind: x.Kind}
	for _, cell := range x.Cells {
		y.Cells = append(y.Cells, api.Cell{Alts: slices.Clone(cell.Alts)})
	}
	return y
}

func samePiece(x, y api.Piece) bool {
	return x.Kind == y.Kind && slices.EqualFunc(x.Cells, y.Cells, sameCell)
}

func sameCell(a, b api.Cell) bool { return slices.Equal(a.Alts, b.Alts) }
