package desk

import (
	"strings"

	"restante/api"
	"restante/custody"
)

// branch is an office of a desk: what it has on its disk, and what it knows by that.
type branch struct {
	id, salt int
	disk     *custody.Disk
	keeper   *custody.Office // holds the things, and has a note of each command
	state
}

func newBranch(id int, c api.Config) (*branch, api.Errno) {
	disk, e := custody.NewDisk(c.Sectors)
	if e != api.OK {
		return nil, e
	}
	b := &branch{id: id, salt: c.Salt, disk: disk}
	return b, b.start()
}

// start starts the office from its disk.
func (b *branch) start() api.Errno {
	keeper, e := custody.Start(b.disk, b.id)
	if e != api.OK {
		return e
	}
	b.keeper = keeper
	b.state = recall(keeper.Notes())
	return api.OK
}

// draft is a copy of the state of an office, on which a command is tried.
type draft struct {
	state
	id, salt, today int
	keeper          *custody.Office // which is only asked
	note            strings.Builder // what is to be kept of the command
	tried           bool            // whether the ledger may have been changed
	keep            func(note string) api.Errno
}

// perform runs what a command does on a copy of the state of the office, which takes its place as soon as it is durable.
func (b *branch) perform(today int, deed func(s *draft) api.Errno) api.Errno {
	s := &draft{state: b.state.copied(), id: b.id, salt: b.salt, today: today, keeper: b.keeper, keep: b.keeper.Note}
	e := deed(s)
	if e == api.OK && len(s.records) > api.MaxRecords {
		e = api.ErrLimit
	}
	if e == api.OK {
		e = s.keep(s.note.String())
	}
	switch {
	case e == api.OK:
		b.state = s.state
	case s.tried:
		// There is no copy of a ledger: the one that was changed is made anew.
		b.state = recall(b.keeper.Notes())
	}
	return e
}
