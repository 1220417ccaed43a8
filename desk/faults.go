package desk

import "restante/api"

// Stop lets the power of the disk of an office fail.
func (d *Desk) Stop(office, calls int) api.Errno {
	b, e := d.find(office)
	if e != api.OK {
		return e
	}
	return b.disk.Stop(calls)
}

// Crash crashes the disk of an office, and starts the office anew from it.
func (d *Desk) Crash(office int, keep []int) api.Errno {
	b, e := d.find(office)
	if e != api.OK {
		return e
	}
	b.disk.Crash(keep)
	return b.start()
}
