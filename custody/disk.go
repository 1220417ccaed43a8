package custody

import (
	"slices"

	"restante/api"
)

// block is what a sector contains.
type block [api.SectorSize]byte

// pendingWrite is a write that was not flushed, and what its sector contained before it.
type pendingWrite struct {
	sector        int
	before, after block
}

// Disk is a simulated disk.
type Disk struct {
	sectors []block
	pending []pendingWrite
	down    bool
	stops   bool // whether the power is to fail
	calls   int  // and after how many further calls
}

// NewDisk returns a disk that contains zero bytes.
func NewDisk(sectors int) (*Disk, api.Errno) {
	if !within(sectors, api.MinSectors, api.MaxSectors) {
		return nil, api.ErrArg
	}
	return &Disk{sectors: make([]block, sectors)}, api.OK
}

// refuses returns the first errors of each call.
func (d *Disk) refuses() api.Errno {
	switch {
	case d == nil:
		return api.ErrNil
	case d.down:
		return api.ErrDown
	}
	return api.OK
}

// refusesSector returns the first errors of each call that names a sector.
func (d *Disk) refusesSector(sector int) api.Errno {
	if e := d.refuses(); e != api.OK {
		return e
	}
	if !within(sector, 0, len(d.sectors)-1) {
		return api.ErrArg
	}
	return api.OK
}

// fails lets a call that has no other error fail if the power fails now.
func (d *Disk) fails() api.Errno {
	if !d.stops {
		return api.OK
	}
	if d.calls == 0 {
		d.down = true
		return api.ErrDown
	}
	d.calls--
	return api.OK
}

// Read returns the bytes of a sector.
func (d *Disk) Read(sector int) ([]byte, api.Errno) {
	if e := d.refusesSector(sector); e != api.OK {
		return nil, e
	}
	return slices.Clone(d.sectors[sector][:]), api.OK
}

// Write writes bytes to the beginning of a sector, and zero bytes to the rest of it; the write is pending.
func (d *Disk) Write(sector int, b []byte) api.Errno {
	if e := d.refusesSector(sector); e != api.OK {
		return e
	}
	if len(b) > api.SectorSize {
		return api.ErrLimit
	}
	if e := d.fails(); e != api.OK {
		return e
	}
	w := pendingWrite{sector: sector, before: d.sectors[sector]}
	copy(w.after[:], b)
	d.pending = append(d.pending, w)
	d.sectors[sector] = w.after
	return api.OK
}

// Flush makes all pending writes durable.
func (d *Disk) Flush() api.Errno {
	if e := d.refuses(); e != api.OK {
		return e
	}
	if e := d.fails(); e != api.OK {
		return e
	}
	d.pending = nil
	return api.OK
}

// Stop lets the power fail after so many further calls of Write and Flush.
func (d *Disk) Stop(calls int) api.Errno {
	if e := d.refuses(); e != api.OK {
		return e
	}
	if calls < 0 {
		return api.ErrArg
	}
	d.stops, d.calls = true, calls
	return api.OK
}

// Crash starts the disk anew; of each pending write it keeps as many first bytes as keep says.
func (d *Disk) Crash(keep []int) {
	if d == nil {
		return
	}
	for _, w := range slices.Backward(d.pending) {
		d.sectors[w.sector] = w.before
	}
	for i, w := range d.pending {
		if i < len(keep) {
			kept := min(max(keep[i], 0), api.SectorSize)
			copy(d.sectors[w.sector][:kept], w.after[:])
		}
	}
	d.pending, d.down, d.stops = nil, false, false
}

// Down reports whether the disk is down.
func (d *Disk) Down() bool { return d == nil || d.down }
