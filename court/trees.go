package court

import "restante/api"

// tree is the digests of a list, and above them the roots of pairs of neighbours, up to a single root. A digest without a neighbour stands on the next level as it is.
type tree [][]api.Hash

func node(left, right api.Hash) api.Hash { return sumOf(nodeLetter, left[:], right[:]) }

func treeOf(l []api.Hash) tree {
	t := tree{l}
	for len(l) > 1 {
		var up []api.Hash
		for i := 0; i < len(l); i += 2 {
			if i+1 < len(l) {
				up = append(up, node(l[i], l[i+1]))
			} else {
				up = append(up, l[i])
			}
		}
		t, l = append(t, up), up
	}
	return t
}

func (t tree) root() api.Hash {
	top := t[len(t)-1]
	if len(top) == 0 {
		return Sum(nil)
	}
	return top[0]
}

// path returns the path of an index that the list has.
func (t tree) path(i int) []api.Hash {
	var path []api.Hash
	for _, level := range t {
		if beside := i ^ 1; beside < len(level) {
			path = append(path, level[beside])
		}
		i /= 2
	}
	return path
}

// Root returns the root of a list.
func Root(l []api.Hash) api.Hash { return treeOf(l).root() }

// Prove returns the path of an index.
func Prove(l []api.Hash, i int) ([]api.Hash, api.Errno) {
	if !within(i, 0, len(l)-1) {
		return nil, api.ErrArg
	}
	return treeOf(l).path(i), api.OK
}

// CheckProof reports whether a path leads from the digest with an index to the root of a list of n digests.
func CheckProof(h api.Hash, i, n int, path []api.Hash, root api.Hash) bool {
	if n > api.MaxRecords || i < 0 || i >= n {
		return false
	}
	for ; n > 1; n, i = (n+1)/2, i/2 {
		if i^1 >= n {
			continue
		}
		if len(path) == 0 {
			return false
		}
		if i%2 == 0 {
			h = node(h, path[0])
		} else {
			h = node(path[0], h)
		}
		path = path[1:]
	}
	return len(path) == 0 && h == root
}

// leftPart returns the greatest power of 2 that is less than n.
func leftPart(n int) int {
	k := 1
	for 2*k < n {
		k *= 2
	}
	return k
}

// Grown returns the growth proof for m.
func Grown(l []api.Hash, m int) ([]api.Hash, api.Errno) {
	if !within(m, 0, len(l)) {
		return nil, api.ErrArg
	}
	if m == 0 {
		return nil, api.OK
	}
	return growth(l, m, true), api.OK
}

// growth returns the growth proof of a list with a mark, for an m that is not 0.
func growth(l []api.Hash, m int, mark bool) []api.Hash {
	if m == len(l) {
		if mark {
			return nil
		}
		return []api.Hash{Root(l)}
	}
	k := leftPart(len(l))
	if m <= k {
		return append(growth(l[:k], m, mark), Root(l[k:]))
	}
	return append(growth(l[k:], m-k, false), Root(l[:k]))
}

// CheckGrown reports whether a growth proof shows that the first m digests of a list of n ones with a root have the root old.
func CheckGrown(m, n int, old, root api.Hash, path []api.Hash) bool {
	if n > api.MaxRecords || !within(m, 0, n) {
		return false
	}
	if m == 0 {
		return len(path) == 0 && old == Sum(nil)
	}
	g := grower{old, path, true}
	was, is := g.roots(m, n, true)
	return g.ok && len(g.path) == 0 && was == old && is == root
}

// grower reads a growth proof.
type grower struct {
	old  api.Hash   // of the part at which the proof with the mark true ends
	path []api.Hash // what is still to be read, from the end
	ok   bool       // the path was long enough
}

// roots returns the root of the first m digests of a part, and that of all its n digests.
func (g *grower) roots(m, n int, mark bool) (was, is api.Hash) {
	if m == n && mark {
		return g.old, g.old
	}
	last := g.last()
	if m == n {
		return last, last
	}
	k := leftPart(n)
	if m <= k {
		was, is = g.roots(m, k, mark)
		return was, node(is, last)
	}
	was, is = g.roots(m-k, n-k, false)
	return node(last, was), node(last, is)
}

func (g *grower) last() api.Hash {
	end := len(g.path) - 1
	if end < 0 {
		g.ok = false
		return api.Hash{}
	}
	h := g.path[end]
	g.path = g.path[:end]
	return h
}
