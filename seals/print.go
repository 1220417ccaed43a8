package seals

import (
	"strconv"
	"strings"

	"restante/api"
)

// Print returns the source of valid rules.
func Print(r api.Rules) string {
	if CheckRules(r) != api.OK {
		return ""
	}
	text := words("weights", r.Weights[:]...) + "\n"
	for _, x := range r.List {
		text += lineOf(x) + "\n"
	}
	return text
}

func lineOf(x api.Rule) string {
	effect, layer := "leave", "any"
	if x.Open {
		effect = "open"
	}
	if x.Layer > 0 {
		layer = strconv.Itoa(x.Layer)
	}
	return words("rule "+x.Name+" rank", x.Rank) + ": " + effect + " " + layer + " if " + condText(x.If)
}

func condText(c api.Cond) string {
	switch c.Op {
	case api.CondAlways:
		return "always"
	case api.CondRoom:
		return words("room", c.N)
	case api.CondBefore:
		return words("days <", c.N)
	case api.CondSince:
		return words("days >=", c.N)
	case api.CondClaim:
		return "claim"
	case api.CondTo:
		return "addressees " + leftWords()[c.N]
	case api.CondFrom:
		return "senders " + leftWords()[c.N]
	case api.CondNot:
		return "not " + partText(c, c.Of[0])
	case api.CondAnd:
		return joinedText(c, " and ")
	}
	return joinedText(c, " or ")
}

func joinedText(c api.Cond, between string) string {
	var parts []string
	for _, x := range c.Of {
		parts = append(parts, partText(c, x))
	}
	return strings.Join(parts, between)
}

// partText returns the text of an element of a condition, in parentheses if it would be read otherwise without them.
func partText(c, x api.Cond) string {
	if x.Op == api.CondOr || x.Op == api.CondAnd && c.Op != api.CondOr {
		return "(" + condText(x) + ")"
	}
	return condText(x)
}
