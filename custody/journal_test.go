package custody_test

import (
	"bytes"
	"fmt"
	"math/rand"
	"slices"
	"strings"
	"testing"

	"restante/api"
	"restante/custody"
)

// lengths are lengths of records around those at which they need one sector more, in any layout.
func lengths() []int {
	var list []int
	for n := range 270 {
		list = append(list, n)
	}
	return append(list, 1000, 1024, 4095, 4096, 32767, 32768, 59999, 60000)
}

// G7 to G9: a journal has all records that were appended, whatever their bytes and lengths.
func TestRecordsAreKept(t *testing.T) {
	for _, fill := range []func(n int) string{
		func(n int) string { return strings.Repeat("\x00", n) },
		func(n int) string { return strings.Repeat("\x01", n) },
		func(n int) string { return strings.Repeat("\xff", n) },
		func(n int) string { return noise(int64(n), n) },
	} {
		x := newTrial(t, 65536)
		for i, n := range lengths() {
			same(t, "Append", x.append(fill(n)), api.OK)
			if i%40 == 7 {
				same(t, "Open", x.open(), true)
			}
		}
		same(t, "Append", x.append(fill(60001)), api.ErrLimit)
		same(t, "Open", x.open(), true)
		same(t, "Append", x.append("last"), api.OK)
		same(t, "Sync", x.sync(), api.OK)
		x.crash(nil)
		same(t, "how many", x.j.Len(), len(lengths())+1)
	}
}

// G7: what Open returned is durable, also if nobody called Sync.
func TestOpenedRecordsAreDurable(t *testing.T) {
	for n := range 12 {
		for _, keep := range [][]int{nil, {64}, {0, 64}, {63, 63, 63, 63}} {
			x := newTrial(t, 200)
			for i := range n {
				x.append(noise(int64(i), 30*i))
			}
			x.open()
			x.crash(keep)
			same(t, "how many", x.j.Len(), n)
		}
	}
}

// G8: the limit, and the order of the errors.
func TestAppendErrors(t *testing.T) {
	x := newTrial(t, 16)
	long, huge := noise(1, 60001), noise(1, 60000)
	same(t, "too long and full", x.append(long), api.ErrLimit)
	same(t, "full", x.append(huge), api.ErrFull)
	same(t, "Append", x.append("a"), api.OK)
	same(t, "full", x.append(noise(2, 1100)), api.ErrFull)
	same(t, "Stop", x.d.Stop(0), api.OK)
	same(t, "full, before the power fails", x.append(huge), api.ErrFull)
	same(t, "Down", x.d.Down(), false)
	x.d.Stop(0)
	x.d.Flush()
	same(t, "too long and down", x.append(long), api.ErrLimit)
	same(t, "down and full", x.append(huge), api.ErrDown)
	same(t, "down", x.append("b"), api.ErrDown)
	same(t, "down", x.sync(), api.ErrDown)
	same(t, "Len", x.j.Len(), 1)
	x.crash(nil)
	for i := range 7 {
		same(t, "Append", x.append(fmt.Sprint(i)), api.OK)
	}
}

// G7, G9, R5
func TestNilJournal(t *testing.T) {
	j, records, e := custody.Open(nil)
	same(t, "Open", fmt.Sprint(j == nil, records, e), "true [] 3")
	same(t, "Append", j.Append(strings.Repeat("x", 60001)), api.ErrNil)
	same(t, "Sync", j.Sync(), api.ErrNil)
	same(t, "Len", j.Len(), 0)
}

// G8: costs of half of the sectors have room, however they are divided, and whatever crashes have left.
func TestRoomForHalfOfTheSectors(t *testing.T) {
	for seed := range int64(400) {
		r := rand.New(rand.NewSource(seed))
		sectors := 16 + r.Intn(60)
		if seed%40 == 0 {
			sectors = pick(r, 3752, 3753, 20000, 65536)
		}
		x := newTrial(t, sectors)
		for left := sectors / 2; left > 0; left = sectors/2 - x.cost() {
			cost := min(left, 1876, 1+r.Intn(pick(r, 1, 3, 8, max(8, sectors))))
			s := noise(r.Int63(), min(60000, 32*cost-pick(r, 1, 1, 1, 1+r.Intn(32))))
			if r.Intn(4) == 0 {
				x.d.Stop(r.Intn(6 + 4*cost))
			}
			if x.append(s) == api.ErrDown {
				x.crash(randomKeep(r, 4+2*cost))
			}
		}
	}
}

// G9: when the power fails at any call of a few appends and syncs, and whatever of the pending writes is left, the records are what they may be, and others can be added behind them.
func TestCrashesAtEveryCall(t *testing.T) {
	for _, sizes := range [][]int{{5}, {40, 70}, {0, 0, 0, 0}, {200, 10}, {10, 200, 30, 130}, {62, 63, 64, 61, 60, 59}, {400}} {
		for calls := range 60 {
			x, ended := failing(t, sizes, calls)
			for i, keep := range keeps(14) {
				x.crash(keep)
				count := x.j.Len()
				x.append(noise(int64(i), 3))
				x.append(noise(int64(i), 150))
				x.open()
				x.sync()
				x.crash(nil)
				same(t, "Len", x.j.Len(), count+2)
				x, ended = failing(t, sizes, calls)
			}
			if ended {
				break
			}
		}
	}
}

// failing appends records, with a Sync behind each second one, until the power fails, and reports whether it did not.
func failing(t *testing.T, sizes []int, calls int) (*trial, bool) {
	t.Helper()
	x := newTrial(t, 128)
	x.append("first")
	x.sync()
	x.d.Stop(calls)
	for i, n := range sizes {
		if x.append(noise(int64(i+100), n)) != api.OK || i%2 == 1 && x.sync() != api.OK {
			return x, false
		}
	}
	return x, true
}

// What a crash leaves of a record never looks like records, whatever it says: here it says what a disk with a journal contains.
func TestTornRecordsAreNotRead(t *testing.T) {
	image := imageOf(t, "ghost", "", noise(3, 90), "another ghost", noise(4, 10), noise(5, 10))
	for shift := range 64 {
		fake := strings.Repeat("\x01", shift) + image
		for calls := range 12 {
			for _, keep := range [][]int{nil, slices.Repeat([]int{64}, 40), slices.Repeat([]int{63}, 40), {0, 64, 64, 64, 64, 64, 64, 64, 64, 64, 64, 64}, {64, 0, 64, 64, 64, 64, 64, 64, 64}, {1, 64, 64, 64, 64, 64, 64}, {64, 64, 2, 64, 64, 64, 64, 64}} {
				x := newTrial(t, 256)
				x.append(noise(1, shift%5*30))
				x.sync()
				x.d.Stop(calls)
				x.append(fake)
				x.crash(keep)
				x.append("short")
				x.sync()
				x.crash(nil)
				x.append(fake[shift/2:])
				x.append("short")
				x.open()
			}
		}
	}
}

// imageOf returns what the first sectors of a disk contain that has a journal with records.
func imageOf(t *testing.T, records ...string) string {
	t.Helper()
	x := newTrial(t, 16+4*len(records))
	for _, s := range records {
		same(t, "Append", x.append(s), api.OK)
	}
	x.sync()
	var image []byte
	for i := range 12 {
		b, _ := x.d.Read(i)
		image = append(image, b...)
	}
	return string(image)
}

// P7.2: any sequence of appends, syncs, stops and crashes.
func TestRandomJournals(t *testing.T) {
	appended, failed, crashed := 0, 0, 0
	for seed := range int64(1500) {
		r := rand.New(rand.NewSource(seed))
		x := newTrial(t, pick(r, 16, 17, 40, 100, 400))
		for range 80 {
			switch r.Intn(9) {
			case 0:
				x.d.Stop(r.Intn(pick(r, 1, 4, 12)))
			case 1:
				x.sync()
			case 2:
				x.open()
			case 3:
				crashed++
				x.crash(randomKeep(r, 12))
			default:
				switch x.append(randomRecord(r)) {
				case api.OK:
					appended++
				case api.ErrDown:
					failed++
				}
			}
		}
	}
	if min(appended, failed, crashed) < 1000 {
		t.Errorf("appended %d, failed %d, crashed %d", appended, failed, crashed)
	}
}

func randomRecord(r *rand.Rand) string {
	n := pick(r, 0, 1, 31, 32, 60, r.Intn(70), r.Intn(70), r.Intn(300))
	return pick(r, noise(r.Int63(), n), strings.Repeat("\x00", n), strings.Repeat("\x01", n), strings.Repeat("\xff", n))
}

// R1, G7: disks that do not belong to a journal: all calls end, whatever they return.
func TestForeignDisks(t *testing.T) {
	for seed := range int64(1500) {
		r := rand.New(rand.NewSource(seed))
		d := newDisk(t, 16+r.Intn(30))
		o := start(t, d, 1)
		for i := range r.Intn(6) {
			o.Enter(api.Token{Id: i + 1, Body: noise(seed, r.Intn(100))}, "note")
			o.Ship(2, []int{i + 1}, "")
		}
		spoilDisk(r, d)
		o.Enter(api.Token{Id: 50, Body: "late"}, noise(seed, r.Intn(200)))
		for range 3 {
			j, _, _ := custody.Open(d)
			j.Append(noise(seed, r.Intn(300)))
			j.Append("")
			j.Sync()
			j.Len()
			p, _ := custody.Start(d, 1)
			p.Note("note")
			p.Hear("bag 2 1 1\n7 0\n\n", "")
			textOfHouse(p)
			spoilDisk(r, d)
		}
	}
}

// spoilDisk changes some sectors.
func spoilDisk(r *rand.Rand, d *custody.Disk) {
	for range 1 + r.Intn(4) {
		sector := r.Intn(16)
		b, _ := d.Read(sector)
		switch r.Intn(4) {
		case 0:
			b = []byte(noise(r.Int63(), 64))
		case 1:
			b = bytes.Repeat([]byte{byte(r.Intn(256))}, 64)
		case 2:
			b, _ = d.Read(r.Intn(16))
		default:
			b[pick(r, 0, 1, 2, 3, 4, 61, 62, 63, r.Intn(64))] ^= byte(1 << r.Intn(8))
		}
		d.Write(sector, b)
	}
}
