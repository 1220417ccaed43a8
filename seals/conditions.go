package seals

import "restante/api"

// test reports whether a condition holds at a fact.
type test func(f api.Fact) bool

// operator is what conditions with one Op have in common.
type operator struct {
	least, most int // the bounds of N
	few, many   int // the bounds of the number of elements of Of
	holds       func(f api.Fact, n int, of []test) bool
}

// operators has the operator of each Op that there is.
type operators map[uint8]operator

func allOperators() operators {
	return operators{
		api.CondAlways: {0, 0, 0, 0, func(api.Fact, int, []test) bool { return true }},
		api.CondRoom:   {1, api.MaxRooms, 0, 0, func(f api.Fact, n int, of []test) bool { return f.Room == n }},
		api.CondBefore: {0, api.MaxDay, 0, 0, func(f api.Fact, n int, of []test) bool { return f.Days < n }},
		api.CondSince:  {0, api.MaxDay, 0, 0, func(f api.Fact, n int, of []test) bool { return f.Days >= n }},
		api.CondTo:     {0, int(api.LeftMany), 0, 0, func(f api.Fact, n int, of []test) bool { return int(f.To) == n }},
		api.CondFrom:   {0, int(api.LeftMany), 0, 0, func(f api.Fact, n int, of []test) bool { return int(f.From) == n }},
		api.CondClaim:  {0, 0, 0, 0, func(f api.Fact, n int, of []test) bool { return f.Claim }},
		api.CondNot:    {0, 0, 1, 1, func(f api.Fact, n int, of []test) bool { return !of[0](f) }},
		api.CondAnd:    {0, 0, 2, api.MaxCondNodes, func(f api.Fact, n int, of []test) bool { return !gives(false, f, of) }},
		api.CondOr:     {0, 0, 2, api.MaxCondNodes, func(f api.Fact, n int, of []test) bool { return gives(true, f, of) }},
	}
}

// gives reports whether one of the tests gives a result at a fact.
func gives(result bool, f api.Fact, of []test) bool {
	for _, holds := range of {
		if holds(f) == result {
			return true
		}
	}
	return false
}

// check returns the error of a condition.
func (ops operators) check(c api.Cond) api.Errno {
	if spare(c, api.MaxCondNodes, api.MaxCondDepth) < 0 {
		return api.ErrLimit
	}
	if !ops.valid(c) {
		return api.ErrArg
	}
	return api.OK
}

// spare returns how many of so many nodes a condition leaves; a negative number if it has more of them, or more levels.
// It stops there, so that it ends even if a condition contains itself.
func spare(c api.Cond, nodes, levels int) int {
	if levels == 0 {
		return -1
	}
	nodes--
	for _, x := range c.Of {
		if nodes < 0 {
			return -1
		}
		nodes = spare(x, nodes, levels-1)
	}
	return nodes
}

// valid reports whether each node is as its operator demands.
func (ops operators) valid(c api.Cond) bool {
	op, known := ops[c.Op]
	if !known || !within(c.N, op.least, op.most) || !within(len(c.Of), op.few, op.many) {
		return false
	}
	for _, x := range c.Of {
		if !ops.valid(x) {
			return false
		}
	}
	return true
}

// test returns the test of a valid condition.
func (ops operators) test(c api.Cond) test {
	var of []test
	for _, x := range c.Of {
		of = append(of, ops.test(x))
	}
	op := ops[c.Op]
	return func(f api.Fact) bool { return op.holds(f, c.N, of) }
}

// Holds reports whether a condition is valid and holds at a fact.
func Holds(c api.Cond, f api.Fact) bool {
	ops := allOperators()
	if ops.check(c) != api.OK {
		return false
	}
	holds := ops.test(c)
	return holds(f)
}

// daysIn returns the days on which a condition may begin to hold or cease to.
func daysIn(c api.Cond) []int {
	if c.Op == api.CondBefore || c.Op == api.CondSince {
		return []int{c.N}
	}
	var days []int
	for _, x := range c.Of {
		days = append(days, daysIn(x)...)
	}
	return days
}
