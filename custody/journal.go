package custody

import "restante/api"

// A record is on the disk as its length in two bytes and its own bytes, in as many blocks as that needs.
//
// The last byte of a block is marked if a record begins in this block, and otherwise 0. It is written after all else of the record is durable; and as a crash keeps the first bytes of a write, a block with a mark was written whole. So a record has its mark exactly if all of it is there, and what a crash left of another one behind it, whatever its bytes, never looks like a record.
const (
	headSize  = 2
	markAt    = api.SectorSize - 1
	beginning = 1
)

// Journal is a list of records on a disk.
type Journal struct{ journal }

// journal is what a Journal has. Offices embed this one, so that nobody else can add records to theirs.
type journal struct {
	disk *Disk
	used int // how many sectors the records have
	size int // how many records there are
}

// Open returns the journal that a disk contains, and its records.
func Open(d *Disk) (*Journal, []string, api.Errno) {
	if e := d.refuses(); e != api.OK {
		return nil, nil, e
	}
	j := &Journal{journal{disk: d}}
	var records []string
	for j.used < len(d.sectors) && d.sectors[j.used][markAt] != 0 {
		s, e := d.record(j.used)
		if e != api.OK {
			return nil, nil, e
		}
		records = append(records, s)
		j.used += blocksFor(len(s))
	}
	j.size = len(records)
	return j, records, api.OK
}

// blocksFor returns how many blocks a record of so many bytes needs.
func blocksFor(bytes int) int { return (headSize + bytes + markAt - 1) / markAt }

// blocksOf returns the blocks of a record.
func blocksOf(s string) []block {
	data := append([]byte{byte(len(s) >> 8), byte(len(s))}, s...)
	blocks := make([]block, blocksFor(len(s)))
	for i := range blocks {
		n := copy(blocks[i][:markAt], data)
		data = data[n:]
	}
	blocks[0][markAt] = beginning
	return blocks
}

// record returns the record that begins in a sector; ErrSpoilt if no journal has written it.
func (d *Disk) record(sector int) (string, api.Errno) {
	head := d.sectors[sector]
	size := int(head[0])<<8 + int(head[1])
	if size > api.MaxRecord || blocksFor(size) > len(d.sectors)-sector {
		return "", api.ErrSpoilt
	}
	var data []byte
	for _, b := range d.sectors[sector:][:blocksFor(size)] {
		data = append(data, b[:markAt]...)
	}
	s := string(data[headSize:][:size])
	for i, b := range blocksOf(s) {
		if d.sectors[sector+i] != b {
			return "", api.ErrSpoilt
		}
	}
	return s, api.OK
}

// Append adds a record at the end.
func (j *Journal) Append(s string) api.Errno {
	if j == nil {
		return api.ErrNil
	}
	return j.add(s)
}

// Sync makes all records durable; those of this journal are so already.
func (j *Journal) Sync() api.Errno {
	if j == nil {
		return api.ErrNil
	}
	return j.disk.Flush()
}

// Len returns the number of records.
func (j *Journal) Len() int {
	if j == nil {
		return 0
	}
	return j.size
}

// add adds a record at the end; it is durable then.
func (j *journal) add(s string) api.Errno {
	switch {
	case len(s) > api.MaxRecord:
		return api.ErrLimit
	case j.disk.Down():
		return api.ErrDown
	case blocksFor(len(s)) > len(j.disk.sectors)-j.used:
		return api.ErrFull
	}
	blocks := blocksOf(s)
	if e := j.write(j.used+1, blocks[1:]); e != api.OK {
		return e
	}
	if e := j.write(j.used, blocks[:1]); e != api.OK {
		return e
	}
	j.used += len(blocks)
	j.size++
	return api.OK
}

// write makes blocks durable in the sectors from one on.
func (j *journal) write(sector int, blocks []block) api.Errno {
	for i := range blocks {
		if e := j.disk.Write(sector+i, blocks[i][:]); e != api.OK {
			return e
		}
	}
	if len(blocks) == 0 {
		return api.OK
	}
	return j.disk.Flush()
}
