// Package reading is layer 1: worn writing as acyclic weighted automata (see shared/doc/01-reading.md).
//
// Every operation on automata is a machine (machine.go) whose strings and profiles are found by profile.go and put into the unique normal form by normal.go.
package reading
