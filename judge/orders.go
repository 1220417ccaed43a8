package judge

import (
	"cmp"
	"slices"
	"strings"

	"restante/api"
)

func within(n, least, most int) bool { return least <= n && n <= most }

// ascends reports whether a list is in strictly ascending order.
func ascends[T any](list []T, compare func(a, b T) int) bool {
	for i := 1; i < len(list); i++ {
		if compare(list[i-1], list[i]) >= 0 {
			return false
		}
	}
	return true
}

func comparePairs(a, b api.Candidate) int {
	return cmp.Or(cmp.Compare(a.Person, b.Person), cmp.Compare(a.Place, b.Place))
}

func compareScored(a, b api.Scored) int {
	return cmp.Or(cmp.Compare(a.Cost, b.Cost), comparePairs(a.Who, b.Who))
}

func compareReadings(a, b api.Reading) int {
	return cmp.Or(cmp.Compare(a.Cost, b.Cost), strings.Compare(a.Text, b.Text))
}

func compareLooks(a, b api.Look) int {
	return cmp.Or(cmp.Compare(a.Layer, b.Layer), cmp.Compare(a.Piece, b.Piece))
}

// compareSets compares lists of looks look by look; a beginning comes first.
func compareSets(a, b []api.Look) int { return slices.CompareFunc(a, b, compareLooks) }

func compareRungs(a, b api.Rung) int { return compareSets(a.Looks, b.Looks) }
