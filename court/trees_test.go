package court_test

import (
	"fmt"
	"math"
	"math/rand"
	"slices"
	"testing"

	"restante/api"
	"restante/court"
)

// The functions of the chapter's section on digests, word by word.

func plainRoot(l []api.Hash) api.Hash {
	switch n := len(l); n {
	case 0:
		return sum("")
	case 1:
		return l[0]
	}
	k := greatest(len(l))
	return sum("n", plainRoot(l[:k]), plainRoot(l[k:]))
}

// greatest returns the greatest power of 2 that is less than n.
func greatest(n int) int {
	k := 1
	for k < n {
		k *= 2
	}
	return k / 2
}

func plainPath(l []api.Hash, i int) []api.Hash {
	if len(l) == 1 {
		return nil
	}
	k := greatest(len(l))
	if i < k {
		return append(plainPath(l[:k], i), plainRoot(l[k:]))
	}
	return append(plainPath(l[k:], i-k), plainRoot(l[:k]))
}

func plainGrowth(l []api.Hash, m int, mark bool) []api.Hash {
	n := len(l)
	if m == 0 {
		return nil
	}
	if m == n && mark {
		return nil
	}
	if m == n {
		return []api.Hash{plainRoot(l)}
	}
	k := greatest(n)
	if m <= k {
		return append(plainGrowth(l[:k], m, mark), plainRoot(l[k:]))
	}
	return append(plainGrowth(l[k:], m-k, false), plainRoot(l[:k]))
}

func hashes(n int) []api.Hash {
	var l []api.Hash
	for i := range n {
		l = append(l, sum("leaf", i))
	}
	return l
}

// sizes are lengths of lists around the powers of 2.
func sizes() []int {
	var l []int
	for n := range 35 {
		l = append(l, n)
	}
	return append(l, 63, 64, 65, 100, 127, 128, 129)
}

// H8, P8.2: roots and paths, and that no other digest, index, length or path is accepted.
func TestProofs(t *testing.T) {
	t.Parallel()
	r := rand.New(rand.NewSource(4))
	for _, n := range sizes() {
		l := hashes(n)
		root := plainRoot(l)
		same(t, fmt.Sprint("Root of ", n), court.Root(l), root)
		for i := range l {
			what := fmt.Sprint("the path of ", i, " in ", n)
			path, e := court.Prove(l, i)
			same(t, what, e, api.OK)
			equal(t, what, path, plainPath(l, i))
			same(t, what, court.CheckProof(l[i], i, n, path, root), true)
			same(t, what+" with another digest", court.CheckProof(sum("x"), i, n, path, root), false)
			same(t, what+" with another root", court.CheckProof(l[i], i, n, path, sum("x")), false)
			same(t, what+" with a longer path", court.CheckProof(l[i], i, n, append(path, root), root), false)
			for at := range path {
				other := slices.Clone(path)
				other[at][r.Intn(32)]++
				same(t, what+" with another path", court.CheckProof(l[i], i, n, other, root), false)
				same(t, what+" with a shorter path", court.CheckProof(l[i], i, n, slices.Delete(slices.Clone(path), at, at+1), root), false)
			}
			for j := -1; j <= n; j++ {
				same(t, what+" as another one", court.CheckProof(l[i], j, n, path, root), j == i)
			}
		}
		for _, i := range []int{-1, n, n + 1, math.MinInt, math.MaxInt} {
			path, e := court.Prove(l, i)
			fails(t, "Prove", e, api.ErrArg, path)
		}
	}
	same(t, "Root of nil", court.Root(nil), court.Root([]api.Hash{}))
}

// H8: whether a path has the right length depends on the index and the length of the list alone.
func TestProofsOfAnyLists(t *testing.T) {
	t.Parallel()
	for n := range 40 {
		l := hashes(n)
		for i := range n {
			path := plainPath(l, i)
			for m := 0; m < 45; m++ {
				want := i < m && len(plainPath(hashes(max(m, i+1)), i)) == len(path) && plainLead(l[i], i, m, path) == plainRoot(l)
				same(t, fmt.Sprint("a path of ", i, " in ", n, " for ", m), court.CheckProof(l[i], i, m, path, plainRoot(l)), want)
			}
		}
	}
}

// plainLead returns the root to which a path of the right length leads.
func plainLead(h api.Hash, i, n int, path []api.Hash) api.Hash {
	if n == 1 {
		return h
	}
	last := len(path) - 1
	if k := greatest(n); i >= k {
		return sum("n", path[last], plainLead(h, i-k, n-k, path[:last]))
	}
	return sum("n", plainLead(h, i, greatest(n), path[:last]), path[last])
}

// H8, H9: lists of 4000 digests and of one more.
func TestLongLists(t *testing.T) {
	for n, ok := range map[int]bool{3999: true, 4000: true, 4001: false} {
		l := hashes(n)
		root := court.Root(l)
		same(t, "Root", root, plainRoot(l))
		for _, i := range []int{0, 1, 2047, 2048, n - 1} {
			path, e := court.Prove(l, i)
			same(t, "Prove", e, api.OK)
			equal(t, "Prove", path, plainPath(l, i))
			same(t, "CheckProof", court.CheckProof(l[i], i, n, path, root), ok)
		}
		for _, m := range []int{0, 1, 2047, 2048, 2049, n - 1, n} {
			path, e := court.Grown(l, m)
			same(t, "Grown", e, api.OK)
			equal(t, "Grown", path, plainGrowth(l, m, true))
			same(t, "CheckGrown", court.CheckGrown(m, n, court.Root(l[:m]), root, path), ok)
		}
	}
	h := hashes(1)[0]
	for _, n := range extremes() {
		same(t, "CheckProof", court.CheckProof(h, 0, n, nil, h), n == 1)
		same(t, "CheckProof", court.CheckProof(h, n, 1, nil, h), n == 0)
		same(t, "CheckProof", court.CheckProof(h, n, n, nil, h), false)
		same(t, "CheckGrown", court.CheckGrown(n, n, h, h, nil), n >= 1 && n <= 4000)
		same(t, "CheckGrown", court.CheckGrown(0, n, sum(""), h, nil), n >= 0 && n <= 4000)
		same(t, "CheckGrown", court.CheckGrown(n, 5, h, h, nil), n == 5)
	}
}

// H9, P8.2: growth proofs, and that no other roots, lengths or paths are accepted.
func TestGrowth(t *testing.T) {
	r := rand.New(rand.NewSource(5))
	for _, n := range sizes() {
		l := hashes(n)
		root := plainRoot(l)
		for m := range n + 1 {
			what := fmt.Sprint("the growth from ", m, " to ", n)
			path, e := court.Grown(l, m)
			old := plainRoot(l[:m])
			same(t, what, e, api.OK)
			equal(t, what, path, plainGrowth(l, m, true))
			same(t, what, court.CheckGrown(m, n, old, root, path), true)
			same(t, what+" from another root", court.CheckGrown(m, n, sum("x"), root, path), false)
			same(t, what+" to another root", court.CheckGrown(m, n, old, sum("x"), path), m == 0)
			same(t, what+" with a longer path", court.CheckGrown(m, n, old, root, append(path, root)), false)
			for at := range path {
				other := slices.Clone(path)
				other[at][r.Intn(32)]++
				same(t, what+" with another path", court.CheckGrown(m, n, old, root, other), false)
				same(t, what+" with a shorter path", court.CheckGrown(m, n, old, root, slices.Delete(slices.Clone(path), at, at+1)), false)
			}
		}
		for _, m := range []int{-1, n + 1, math.MinInt, math.MaxInt} {
			path, e := court.Grown(l, m)
			fails(t, "Grown", e, api.ErrArg, path)
			same(t, "CheckGrown", court.CheckGrown(m, n, root, root, nil), false)
		}
	}
}

// H9: proofs for other lengths than those for which they were made.
func TestGrowthOfAnyLists(t *testing.T) {
	t.Parallel()
	for n := range 20 {
		l := hashes(n)
		root := plainRoot(l)
		for m := range n + 1 {
			path, old := plainGrowth(l, m, true), plainRoot(l[:m])
			for p := range 24 {
				for o := range p + 1 {
					got := court.CheckGrown(o, p, old, root, path)
					same(t, fmt.Sprint("the growth from ", m, " to ", n, " for ", o, ", ", p), got, plainGrown(o, p, old, root, path))
				}
			}
		}
	}
}

// plainGrown follows CheckGrown.
func plainGrown(m, n int, old, root api.Hash, path []api.Hash) bool {
	if m == 0 {
		return len(path) == 0 && old == sum("")
	}
	if m == n {
		return len(path) == 0 && old == root
	}
	if len(path) != len(plainGrowth(hashes(n), m, true)) {
		return false
	}
	was, is := plainRoots(m, n, true, old, path)
	return was == old && is == root
}

// plainRoots returns the roots to which a growth proof of the right length leads.
func plainRoots(m, n int, mark bool, old api.Hash, path []api.Hash) (was, is api.Hash) {
	if m == n && mark {
		return old, old
	}
	last := path[len(path)-1]
	if m == n {
		return last, last
	}
	k, path := greatest(n), path[:len(path)-1]
	if m <= k {
		was, is = plainRoots(m, k, mark, old, path)
		return was, sum("n", is, last)
	}
	was, is = plainRoots(m-k, n-k, false, old, path)
	return sum("n", last, was), sum("n", last, is)
}

// H8, H9: a digest that is missing at the end of a path does not count as a zero one.
func TestShortPaths(t *testing.T) {
	a, zero := sum("a"), api.Hash{}
	root := sum("n", a, zero)
	same(t, "CheckProof", court.CheckProof(a, 0, 2, []api.Hash{zero}, root), true)
	same(t, "CheckProof without a path", court.CheckProof(a, 0, 2, nil, root), false)
	same(t, "CheckGrown", court.CheckGrown(1, 2, a, root, []api.Hash{zero}), true)
	same(t, "CheckGrown without a path", court.CheckGrown(1, 2, a, root, nil), false)
	three := sum("n", sum("n", zero, a), a)
	same(t, "CheckGrown", court.CheckGrown(1, 3, zero, three, []api.Hash{a, a}), true)
	same(t, "CheckGrown with a short path", court.CheckGrown(1, 3, zero, three, []api.Hash{a}), false)
}

// The examples of the chapter: roots, paths and growth proofs of three digests.
func TestTreeExamples(t *testing.T) {
	l := hashes(3)
	a, b, c := l[0], l[1], l[2]
	same(t, "Root", court.Root(l), sum("n", sum("n", a, b), c))
	path, _ := court.Prove(l, 2)
	equal(t, "Prove 2", path, []api.Hash{sum("n", a, b)})
	path, _ = court.Prove(l, 0)
	equal(t, "Prove 0", path, []api.Hash{b, c})
	for m, want := range map[int][]api.Hash{0: nil, 1: {b, c}, 2: {c}, 3: nil} {
		path, _ := court.Grown(l, m)
		equal(t, "Grown", path, want)
	}
}
