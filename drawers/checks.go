package drawers

import (
	"strings"

	"restante/api"
)

func within(n, least, most int) bool { return least <= n && n <= most }

// areIds reports whether all numbers are those of things, persons or bags.
func areIds(numbers ...int) bool {
	for _, n := range numbers {
		if !within(n, 1, api.MaxId) {
			return false
		}
	}
	return true
}

// isUnitName reports whether a string is a name of a unit.
func isUnitName(name string) bool {
	const letters = "abcdefghijklmnopqrstuvwxyz0123456789 -"
	if !within(len(name), 1, api.MaxName) || name[0] == ' ' || name[len(name)-1] == ' ' {
		return false
	}
	for i := range len(name) {
		if strings.IndexByte(letters, name[i]) < 0 {
			return false
		}
	}
	return true
}

// isAccount reports whether an account is valid.
func isAccount(a api.Account) bool {
	switch a.Kind {
	case api.AcThing, api.AcPerson, api.AcBag:
		return areIds(a.Id)
	case api.AcOutside, api.AcCrown, api.AcLost, api.AcBank:
		return a.Id == 0
	}
	return false
}

// flow is between which kinds of accounts units are moved, and why.
type flow struct{ why, from, to uint8 }

// isFlow reports whether the table of reasons has a flow.
func isFlow(f flow) bool {
	switch f {
	case flow{api.WhyDeposit, api.AcOutside, api.AcThing},
		flow{api.WhyPay, api.AcThing, api.AcPerson},
		flow{api.WhyForfeit, api.AcThing, api.AcCrown},
		flow{api.WhyRefund, api.AcCrown, api.AcPerson},
		flow{api.WhyConvert, api.AcThing, api.AcBank},
		flow{api.WhyConvert, api.AcBank, api.AcThing},
		flow{api.WhyLose, api.AcThing, api.AcLost},
		flow{api.WhyRecover, api.AcLost, api.AcThing},
		flow{api.WhyDispatch, api.AcThing, api.AcBag},
		flow{api.WhyArrive, api.AcBag, api.AcOutside},
		flow{api.WhyReceive, api.AcOutside, api.AcThing}:
		return true
	}
	return false
}

// isPosting reports whether the fields of a posting are valid.
func isPosting(p api.Posting) bool {
	return within(p.Day, 0, api.MaxDay) && isUnitName(p.Unit) && within(p.N, 1, api.MaxN) && within(p.Lot, 1, api.MaxLots) &&
		isAccount(p.From) && isAccount(p.To) && isFlow(flow{p.Why, p.From.Kind, p.To.Kind})
}
