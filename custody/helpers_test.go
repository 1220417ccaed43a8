package custody_test

import (
	"fmt"
	"math/rand"
	"slices"
	"testing"

	"restante/api"
	"restante/custody"
)

func same[T comparable](t *testing.T, what string, got, want T) {
	t.Helper()
	if got != want {
		t.Fatalf("%.300s: got %.3000s; want %.3000s", what, fmt.Sprint(got), fmt.Sprint(want))
	}
}

func equal[T comparable](t *testing.T, what string, got, want []T) {
	t.Helper()
	if !slices.Equal(got, want) {
		t.Fatalf("%.300s: got %.3000s; want %.3000s", what, fmt.Sprint(got), fmt.Sprint(want))
	}
}

func newDisk(t *testing.T, sectors int) *custody.Disk {
	t.Helper()
	d, e := custody.NewDisk(sectors)
	same(t, "NewDisk", e, api.OK)
	return d
}

func open(t *testing.T, d *custody.Disk) (*custody.Journal, []string) {
	t.Helper()
	j, records, e := custody.Open(d)
	same(t, "Open", e, api.OK)
	return j, records
}

func start(t *testing.T, d *custody.Disk, id int) *custody.Office {
	t.Helper()
	o, e := custody.Start(d, id)
	same(t, "Start", e, api.OK)
	return o
}

func pick[T any](r *rand.Rand, list ...T) T { return list[r.Intn(len(list))] }

// noise returns a string of random bytes, which no disk can contain in fewer bytes.
func noise(seed int64, n int) string {
	b := make([]byte, n)
	rand.New(rand.NewSource(seed)).Read(b)
	return string(b)
}

// keeps returns what crashes may leave of up to n pending writes: all combinations of few values, single writes of which more or less is left than of the others, and random numbers.
func keeps(n int) [][]int {
	lists := [][]int{nil}
	all := func(k int) []int { return slices.Repeat([]int{k}, n) }
	for _, k := range []int{-1, 1, 2, 3, 4, 8, 16, 31, 32, 33, 48, 60, 61, 62, 63, 64, 65} {
		lists = append(lists, all(k))
	}
	for i := range n {
		for _, others := range []int{0, 63, 64} {
			for _, k := range []int{0, 1, 2, 5, 32, 62, 63, 64} {
				keep := all(others)
				keep[i] = k
				lists = append(lists, keep)
			}
		}
		lists = append(lists, all(64)[:i])
	}
	r := rand.New(rand.NewSource(int64(n)))
	for range 30 {
		lists = append(lists, randomKeep(r, n))
	}
	return lists
}

func randomKeep(r *rand.Rand, n int) []int {
	var keep []int
	for range r.Intn(n + 1) {
		keep = append(keep, pick(r, -1, 0, 0, 64, 64, 63, 62, 100, r.Intn(65)))
	}
	return keep
}
