package desk

import (
	"restante/api"
	"restante/court"
	"restante/seals"
)

// Rules gives an office new rules.
func (d *Desk) Rules(office int, source string) api.Errno {
	return d.command(office, func(s *draft) api.Errno {
		rules, fault := seals.Parse(source)
		if fault.Err != api.OK {
			return fault.Err
		}
		policy, _, e := seals.Compile(rules)
		if e != api.OK {
			return e
		}
		s.policy, s.ruled = policy, true
		return s.write(api.Record{Kind: api.RecRules, Text: source})
	})
}

// Publish adds a line to the books of an office.
func (d *Desk) Publish(office int, line string) api.Errno {
	return d.command(office, func(s *draft) api.Errno {
		books, e := court.Enter(s.books, line)
		if e != api.OK {
			return e
		}
		if len(line) > mostText {
			return api.ErrLimit
		}
		s.books = books
		return s.write(api.Record{Kind: api.RecBook, Text: line})
	})
}
