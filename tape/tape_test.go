package tape

import (
	"bytes"
	"encoding/binary"
	"encoding/hex"
	"hash/crc32"
	"math"
	"slices"
	"strings"
	"testing"

	"turntable/api"
	"turntable/cell"
	"turntable/dev"
)

const (
	sectorLen  = 64
	allBits    = 512
	maxRow     = 64
	maxSeq     = 2147483648
	most       = 57 // how many bytes of a tape a sector has room for
	allSectors = 4096
)

// plainCell is the bytes of a sector of a number and a place, told one behind the other.
func plainCell(seq int64, place int, b []byte) []byte {
	out := append([]byte{byte(len(b))}, b...)
	out = append(out, make([]byte, 60-len(out))...)
	head := append(binary.LittleEndian.AppendUint32(nil, uint32(seq)), byte(place))
	sum := crc32.Checksum(append(head, out...), crc32.MakeTable(crc32.Castagnoli))
	return binary.LittleEndian.AppendUint32(out, sum)
}

// plainSector is the bytes of a tape's sector.
func plainSector(seq int64, place int, begins int, b []byte) []byte {
	return plainCell(seq, place, append(binary.LittleEndian.AppendUint16(nil, uint16(begins)), b...))
}

// plainIsRow is the chapter's words for a row, of a device of size sectors.
func plainIsRow(size, first, sectors int, seq int64) bool {
	if sectors < 1 || sectors > 64 || seq < 1 || seq > maxSeq || first < 2 || first > size {
		return false
	}
	for i := range sectors {
		if first+i >= size {
			return false
		}
	}
	return true
}

// plainRead is the chapter's words for what stands on a row: each sector is made again from what it tells.
func plainRead(d *dev.Dev, first, sectors int, seq int64) ([]byte, api.Errno) {
	if !plainIsRow(d.Size(), first, sectors, seq) {
		return nil, 1
	}
	var out []byte
	for i := range sectors {
		s, e := d.Read(first + i)
		if e != 0 {
			return nil, e
		}
		n := int(s[0])
		if n < 3 || n > 59 || !bytes.Equal(s, plainSector(seq, i, len(out), s[3:n+1])) {
			break
		}
		out = append(out, s[3:n+1]...)
	}
	return out, 0
}

// plain is the chapter's words for a tape: what each sector has, up to the current one, which comes last.
type plain struct {
	d       *dev.Dev
	first   int
	sectors int
	seq     int64
	parts   [][]byte
}

func newPlain(d *dev.Dev, first, sectors int, seq int64) *plain {
	return &plain{d, first, sectors, seq, [][]byte{nil}}
}

func (p *plain) all() []byte { return bytes.Join(p.parts, nil) }

func (p *plain) last() []byte { return p.parts[len(p.parts)-1] }

func (p *plain) left() int { return 57*(p.sectors-len(p.parts)+1) - len(p.last()) }

func (p *plain) append(b []byte) api.Errno {
	if len(b) > p.left() {
		return 5
	}
	for len(b) > 0 {
		i := len(p.parts) - 1
		had := p.last()
		begins := len(p.all()) - len(had)
		n := min(len(b), 57-len(had))
		p.parts[i] = slices.Concat(had, b[:n])
		b = b[n:]
		if e := p.d.Write(p.first+i, plainSector(p.seq, i, begins, p.parts[i])); e != 0 {
			return e
		}
		if len(p.parts[i]) == 57 {
			p.parts = append(p.parts, nil)
		}
	}
	return 0
}

func (p *plain) sync() api.Errno {
	if e := p.d.Flush(); e != 0 {
		return e
	}
	if len(p.last()) > 0 {
		p.parts = append(p.parts, nil)
	}
	return 0
}

// text is n bytes of all sorts, other ones for each from.
func text(from, n int) []byte {
	b := make([]byte, n)
	for i := range b {
		b[i] = byte((from+i)*31 + (from+i)/57)
	}
	return b
}

// mixed is a sector's bytes of all sorts, no tape's, other ones for each n.
func mixed(n int) []byte {
	b := make([]byte, sectorLen)
	for i := range b {
		b[i] = byte(n*31 + i*7)
	}
	return b
}

// keeps calls do with each list of n bools.
func keeps(n int, do func(keep []bool)) {
	for bits := range 1 << n {
		keep := make([]bool, n)
		for i := range keep {
			keep[i] = bits>>i&1 == 1
		}
		do(keep)
	}
}

// state is all that may be seen of a device but what its Reads tell when it is down.
type state struct {
	done  int
	down  bool
	loose []int
	all   [][]byte
}

func stateOf(d *dev.Dev) state {
	s := state{done: d.Done(), down: d.Down(), loose: d.Loose()}
	for i := range d.Size() {
		b, _ := d.Read(i)
		s.all = append(s.all, b)
	}
	return s
}

func (s state) same(x state) bool {
	return s.done == x.done && s.down == x.down && slices.Equal(s.loose, x.loose) && slices.EqualFunc(s.all, x.all, bytes.Equal)
}

// checkRead holds Read to the plain words, twice; it changes nothing of the device.
func checkRead(t *testing.T, d *dev.Dev, first, sectors int, seq int64) {
	t.Helper()
	before := stateOf(d)
	want, e := plainRead(d, first, sectors, seq)
	for range 2 {
		got, f := Read(d, first, sectors, seq)
		if !bytes.Equal(got, want) || f != e {
			t.Fatalf("Read(%d, %d, %d) = %x, %d; want %x, %d", first, sectors, seq, got, f, want, e)
		}
	}
	if after := stateOf(d); !after.same(before) {
		t.Fatalf("behind Read: %v; ahead of it %v", after, before)
	}
}

// reads holds Read to known bytes, and to the plain words.
func reads(t *testing.T, d *dev.Dev, first, sectors int, seq int64, want []byte) {
	t.Helper()
	checkRead(t, d, first, sectors, seq)
	if got, e := Read(d, first, sectors, seq); e != api.OK || !bytes.Equal(got, want) {
		t.Fatalf("Read(%d, %d, %d) = %x, %d; want %x", first, sectors, seq, got, e, want)
	}
}

// made is a new tape, which there is.
func made(t *testing.T, d *dev.Dev, first, sectors int, seq int64) *Tape {
	t.Helper()
	x := New(d, first, sectors, seq)
	if x == nil {
		t.Fatalf("New(%d sectors, %d, %d, %d) is nil", d.Size(), first, sectors, seq)
	}
	return x
}

// appended has bytes be appended, which has no error.
func appended(t *testing.T, x *Tape, b []byte) {
	t.Helper()
	if e := x.Append(b); e != api.OK {
		t.Fatalf("Append of %d bytes = %d", len(b), e)
	}
}

// synced has all be kept, which has no error.
func synced(t *testing.T, x *Tape) {
	t.Helper()
	if e := x.Sync(); e != api.OK {
		t.Fatalf("Sync = %d", e)
	}
}

// counts holds how many bytes there are, and may be, to what is known.
func counts(t *testing.T, x *Tape, length, left int) {
	t.Helper()
	if x.Len() != length || x.Left() != left {
		t.Fatalf("Len, Left = %d, %d; want %d, %d", x.Len(), x.Left(), length, left)
	}
}

// put has a sector have bytes.
func put(t *testing.T, d *dev.Dev, i int, b []byte) {
	t.Helper()
	if e := d.Write(i, b); e != api.OK {
		t.Fatalf("Write(%d) = %d", i, e)
	}
}

// has holds what a sector has to what is known.
func has(t *testing.T, d *dev.Dev, i int, want []byte) {
	t.Helper()
	if b, e := d.Read(i); e != api.OK || !bytes.Equal(b, want) {
		t.Fatalf("the sector %d has %x, %d; want %x", i, b, e, want)
	}
}

// P11.1: the chapter's example: 3 bytes, a Sync, and 2 bytes are two sectors.
func TestExample(t *testing.T) {
	d := dev.New(6)
	x := made(t, d, 2, 4, 5)
	appended(t, x, []byte("abc"))
	synced(t, x)
	appended(t, x, []byte("de"))
	has(t, d, 2, plainSector(5, 0, 0, []byte("abc")))
	has(t, d, 3, plainSector(5, 1, 3, []byte("de")))
	for _, i := range []int{0, 1, 4, 5} {
		has(t, d, i, make([]byte, sectorLen))
	}
	reads(t, d, 2, 4, 5, []byte("abcde"))
}

// P11.1: sectors whose bytes are known, the sum too.
func TestKnown(t *testing.T) {
	d := dev.New(9)
	x := made(t, d, 3, 6, 0x01020304)
	appended(t, x, []byte("abc"))
	synced(t, x)
	appended(t, x, bytes.Repeat([]byte{255}, 285))
	for i, want := range map[int]string{
		3: "05" + "0000" + "616263" + strings.Repeat("00", 54) + "8609c785",
		4: "3b" + "0300" + strings.Repeat("ff", 57) + "a62a21b7",
		8: "3b" + "e700" + strings.Repeat("ff", 57) + "34b6cba8",
	} {
		b, _ := d.Read(i)
		if got := hex.EncodeToString(b); got != want {
			t.Errorf("the sector %d is %s; want %s", i, got, want)
		}
	}
}

// P11.1: the errors' numbers are the chapter's.
func TestNumbers(t *testing.T) {
	d := dev.New(3)
	x := made(t, d, 2, 1, 1)
	if _, e := Read(d, 1, 1, 1); e != 1 {
		t.Error(e)
	}
	if e := x.Append(make([]byte, 58)); e != 5 {
		t.Error(e)
	}
	d.Cut(0)
	if e := x.Append([]byte{1}); e != 71 {
		t.Error(e)
	}
	if e := x.Sync(); e != 71 {
		t.Error(e)
	}
	if _, e := Read(d, 2, 1, 1); e != 71 {
		t.Error(e)
	}
}

// P11.1, K1: how many bytes so many sectors have room for.
func TestRoom(t *testing.T) {
	if most != cell.Room()-2 {
		t.Fatalf("a sector has room for %d", cell.Room())
	}
	want := 0
	for n := 1; n <= maxRow; n++ {
		want += most
		if got := Room(n); got != want {
			t.Errorf("Room(%d) = %d; want %d", n, got, want)
		}
	}
	for _, n := range []int{math.MinInt, math.MinInt + 1, -1 << 32, -64, -1, 0, 65, 66, 128, 255, 256, 257, allSectors, 1 << 32, 1<<32 + 1, 1 << 63 / 57, math.MaxInt} {
		if got := Room(n); got != 0 {
			t.Errorf("Room(%d) = %d", n, got)
		}
	}
}

// oneRow holds New and Read to whether that is a row.
func oneRow(t *testing.T, d *dev.Dev, first, sectors int, seq int64) {
	t.Helper()
	want := plainIsRow(d.Size(), first, sectors, seq)
	x := New(d, first, sectors, seq)
	b, e := Read(d, first, sectors, seq)
	if (x != nil) != want || (e == api.OK) != want || !want && (e != api.ErrArg || len(b) != 0) {
		t.Fatalf("%d sectors: New and Read (%d, %d, %d): %v, %v, %d; want %v", d.Size(), first, sectors, seq, x != nil, b, e, want)
	}
	if want {
		counts(t, x, 0, Room(sectors))
	}
}

// P11.1, K1 and K4: what is a row, and what is none, of devices of all sizes up to some more than a row's.
func TestIsRow(t *testing.T) {
	for _, size := range []int{1, 2, 3, 4, 5, 63, 64, 65, 66, 67, 68, 70, allSectors} {
		d := dev.New(size)
		firsts := []int{math.MinInt, math.MinInt + 1, -1 << 32, -size, -1, 0, 1, 2, 3, 4, size / 2, 1 << 32, 1<<32 + 2, math.MaxInt - 64, math.MaxInt - 1, math.MaxInt}
		for back := -2; back <= 67; back++ {
			firsts = append(firsts, size-back)
		}
		for _, first := range firsts {
			for sectors := -3; sectors <= 67; sectors++ {
				oneRow(t, d, first, sectors, 7)
			}
			for _, sectors := range []int{math.MinInt, -math.MaxInt, -1 << 32, 1 - 1<<32, -64, 128, 255, 256, 257, size, size - 1, size - 2, size + 1, 1 << 32, 1<<32 + 1, math.MaxInt - 1, math.MaxInt} {
				oneRow(t, d, first, sectors, 7)
			}
		}
	}
}

// P11.1, K1 and K4: which numbers a row may be of.
func TestIsNumber(t *testing.T) {
	for _, size := range []int{3, 66, 70} {
		d := dev.New(size)
		for _, seq := range []int64{math.MinInt64, math.MinInt64 + 1, -1 << 32, 1 - 1<<32, -maxSeq, -2, -1, 0, 1, 2, 255, 256, maxSeq - 1, maxSeq, maxSeq + 1, maxSeq + 2, 1<<32 - 1, 1 << 32, 1<<32 + 1, math.MaxInt64} {
			oneRow(t, d, 2, 1, seq)
			oneRow(t, d, size-1, 1, seq)
			oneRow(t, d, 2, size-2, seq)
			oneRow(t, d, 1, 1, seq)
		}
	}
}

// P11.1, K1: a new tape is empty, whatever there is on its row; it does nothing to the device, be that down, too.
func TestNew(t *testing.T) {
	for _, down := range []bool{false, true} {
		d := dev.New(8)
		for i := range 4 {
			put(t, d, 2+i, plainSector(9, i, 57*i, text(57*i, 57)))
		}
		d.Flush()
		put(t, d, 6, mixed(1))
		if down {
			d.Cut(0)
			d.Flush()
		}
		before := stateOf(d)
		for _, seq := range []int64{1, 9, maxSeq} {
			for sectors := 1; sectors <= 6; sectors++ {
				counts(t, made(t, d, 2, sectors, seq), 0, 57*sectors)
			}
		}
		if after := stateOf(d); !after.same(before) {
			t.Fatalf("New has changed %v to %v", before, after)
		}
	}
}

// P11.1, K2: of all that a tape of three sectors may have already, and all that is put behind: which sectors are written, how often, and what they have; of more than there is room for nothing changes.
func TestAppend(t *testing.T) {
	const sectors = 3
	room := Room(sectors)
	whole := text(0, room+2)
	for had := 0; had <= room; had++ {
		for n := 0; n <= room+2-had; n++ {
			d := dev.New(sectors + 3)
			x := made(t, d, 2, sectors, 6)
			appended(t, x, whole[:had])
			counts(t, x, had, room-had)
			d.Flush() // not a Sync: what the current sector has is written again
			done, want, end := d.Done(), api.OK, had+n
			if end > room {
				want, end = api.ErrFull, had
			}
			if e := x.Append(whole[had : had+n]); e != want {
				t.Fatalf("%d and %d bytes: %d; want %d", had, n, e, want)
			}
			counts(t, x, end, room-end)
			var loose []int
			for i := range sectors {
				var b []byte
				if from := i * 57; from < end {
					b = whole[from:min(end, from+57)]
				}
				if from := i * 57; end > had && from < end && from+57 > had {
					loose = append(loose, 2+i)
				}
				if b == nil {
					has(t, d, 2+i, make([]byte, sectorLen))
				} else if s, _ := d.Read(2 + i); !bytes.Equal(s, plainSector(6, i, i*57, b)) {
					t.Fatalf("%d and %d bytes: the sector %d has %x", had, n, i, s)
				}
			}
			if got := d.Loose(); !slices.Equal(got, loose) || d.Done() != done+len(loose) {
				t.Fatalf("%d and %d bytes: %v are loose behind %d things; want %v", had, n, got, d.Done()-done, loose)
			}
			reads(t, d, 2, sectors, 6, whole[:end])
		}
	}
}

// P11.1, K2: the longest row, filled byte by byte, and at once: to the last byte, and none more.
func TestFill(t *testing.T) {
	for _, sectors := range []int{1, 2, maxRow} {
		room := Room(sectors)
		whole := text(5, room)
		d := dev.New(2 + sectors)
		x := made(t, d, 2, sectors, maxSeq)
		for i := range room {
			if e := x.Append(make([]byte, room-i+1)); e != api.ErrFull {
				t.Fatalf("Append of one too many behind %d = %d", i, e)
			}
			appended(t, x, whole[i:i+1])
			counts(t, x, i+1, room-i-1)
		}
		if d.Done() != room {
			t.Fatalf("%d things", d.Done())
		}
		reads(t, d, 2, sectors, maxSeq, whole)
		y := made(t, d, 2, sectors, 3)
		appended(t, y, whole)
		if d.Done() != room+sectors {
			t.Fatalf("%d things", d.Done())
		}
		for _, z := range []*Tape{x, y} {
			counts(t, z, room, 0)
			appended(t, z, nil)
			for _, n := range []int{1, 2, 57, 58, 1 << 20} {
				if e := z.Append(make([]byte, n)); e != api.ErrFull {
					t.Fatalf("Append of %d to a full one = %d", n, e)
				}
			}
			synced(t, z)
			counts(t, z, room, 0)
		}
		reads(t, d, 2, sectors, 3, whole)
		reads(t, d, 2, sectors, maxSeq, nil)
	}
}

// P11.1, K2: of more than there is room for it is ErrFull whatever the device is; of no bytes OK. No thing is done by either, nor does power fail in one.
func TestAppendFirst(t *testing.T) {
	for _, had := range []int{0, 1, 56, 57, 58, 113, 114} {
		for state := range 3 {
			d := dev.New(5)
			x := made(t, d, 2, 2, 4)
			appended(t, x, text(0, had))
			switch state {
			case 1:
				d.Cut(0)
			case 2:
				d.Cut(0)
				d.Flush()
			}
			before := stateOf(d)
			for range 3 {
				if e := x.Append(make([]byte, 115-had)); e != api.ErrFull {
					t.Fatalf("behind %d: %d", had, e)
				}
				if e := x.Append(make([]byte, 4000)); e != api.ErrFull {
					t.Fatalf("behind %d: %d", had, e)
				}
				appended(t, x, nil)
				appended(t, x, []byte{})
				counts(t, x, had, 114-had)
			}
			if after := stateOf(d); !after.same(before) {
				t.Fatalf("%v; ahead of it %v", after, before)
			}
			if had == 114 || state == 0 {
				continue
			}
			if e := x.Append([]byte{1}); e != api.ErrDown {
				t.Fatalf("behind %d: %d", had, e)
			}
		}
	}
}

// P11.1, K3: a Sync is one Flush, of all that is loose on the device; behind it the next sector is current, if the current one had bytes.
func TestSync(t *testing.T) {
	for had := 0; had <= 3*57; had++ {
		d := dev.New(7)
		x := made(t, d, 3, 3, 4)
		appended(t, x, text(0, had))
		put(t, d, 0, mixed(1)) // no sector of its row
		put(t, d, 6, mixed(2))
		done := d.Done()
		left := 57 * (3 - (had+56)/57)
		for n := range 3 {
			synced(t, x)
			counts(t, x, had, left)
			if d.Done() != done+n+1 || len(d.Loose()) != 0 {
				t.Fatalf("behind %d: %d things, %v", had, d.Done()-done, d.Loose())
			}
		}
		d.Boot(nil, nil)
		reads(t, d, 3, 3, 4, text(0, had))
		has(t, d, 0, mixed(1))
		has(t, d, 6, mixed(2))
		if left == 0 {
			appended(t, x, nil)
			if e := x.Append([]byte{1}); e != api.ErrFull {
				t.Fatalf("behind %d: %d", had, e)
			}
			continue
		}
		appended(t, x, []byte("x"))
		counts(t, x, had+1, left-1)
		at := 3 + (had+56)/57
		has(t, d, at, plainSector(4, at-3, had, []byte("x")))
		if got := d.Loose(); !slices.Equal(got, []int{at}) {
			t.Fatalf("behind %d: %v", had, got)
		}
	}
}

// P11.1, K3: each Sync behind a byte takes a sector; the row ends so.
func TestSyncEach(t *testing.T) {
	for _, sectors := range []int{1, 5, maxRow} {
		d := dev.New(2 + sectors)
		x := made(t, d, 2, sectors, 1)
		for i := range sectors {
			appended(t, x, []byte{byte(i)})
			counts(t, x, i+1, 57*(sectors-i)-1)
			synced(t, x)
			counts(t, x, i+1, 57*(sectors-i-1))
			has(t, d, 2+i, plainSector(1, i, i, []byte{byte(i)}))
		}
		if e := x.Append([]byte{1}); e != api.ErrFull {
			t.Fatalf("Append = %d", e)
		}
		synced(t, x)
		b, e := Read(d, 2, sectors, 1)
		if e != api.OK || len(b) != sectors {
			t.Fatalf("Read = %x, %d", b, e)
		}
		for i, c := range b {
			if int(c) != i {
				t.Fatalf("Read = %x", b)
			}
		}
	}
}

// P11.1, K3: power fails at a Sync: nothing is done, and nothing kept by it.
func TestSyncCut(t *testing.T) {
	for _, had := range []int{0, 1, 57, 60, 114} {
		d := dev.New(4)
		x := made(t, d, 2, 2, 4)
		appended(t, x, text(0, had))
		d.Cut(0)
		done := d.Done()
		for range 3 {
			if e := x.Sync(); e != api.ErrDown || d.Done() != done || !d.Down() {
				t.Fatalf("behind %d: %d, %d things", had, e, d.Done()-done)
			}
		}
		d.Boot(nil, nil)
		reads(t, d, 2, 2, 4, nil)
	}
}

// P11.1, K2: power fails at each Write of an Append: those ahead of it are done, and nothing behind it.
func TestAppendCut(t *testing.T) {
	for _, had := range []int{0, 1, 30, 56, 57} {
		for n := 1; n <= 4*57-had; n += 13 {
			writes := (had+n+56)/57 - had/57
			for cut := range writes + 1 {
				d := dev.New(7)
				x := made(t, d, 2, 4, 4)
				appended(t, x, text(0, had))
				d.Cut(cut)
				done, want := d.Done(), api.ErrDown
				if cut == writes {
					want = api.OK
				}
				if e := x.Append(text(had, n)); e != want || d.Done() != done+cut {
					t.Fatalf("%d and %d bytes, cut %d: %d, %d things", had, n, cut, e, d.Done()-done)
				}
				end := had + n
				if cut < writes {
					end = max(had, (had/57+cut)*57)
				}
				d.Boot([]bool{true, true, true, true}, nil)
				reads(t, d, 2, 4, 4, text(0, end))
			}
		}
	}
}

// P1: behind an error too each call ends, and none panics; what it tells, and writes, is not said.
func TestBehindError(t *testing.T) {
	for had := range 172 {
		for n := 1; n <= 171-had; n += 7 {
			for cut := range 3 {
				d := dev.New(5)
				x := made(t, d, 2, 3, 4)
				appended(t, x, text(0, had))
				d.Cut(cut)
				x.Append(text(0, n))
				x.Sync()
				d.Boot(nil, nil)
				d.Cut(500) // were there no end, there is one then
				for range 70 {
					x.Append(text(0, 1))
					x.Len()
					x.Left()
				}
				x.Append(text(0, 57))
				x.Append(text(0, 171))
				x.Append(nil)
				for range 5 {
					x.Sync()
				}
				if d.Down() {
					t.Fatalf("%d and %d bytes, cut %d: there is no end", had, n, cut)
				}
			}
		}
	}
}

// P11.1, K4: of a device that is down Read has its error, and no bytes; of what is no row ErrArg, if that is down, too.
func TestReadDown(t *testing.T) {
	for _, first := range [][]byte{nil, mixed(1), plainSector(5, 0, 0, []byte("abc"))} {
		d := dev.New(5)
		if first != nil {
			put(t, d, 2, first)
		}
		d.Cut(0)
		checkRead(t, d, 2, 3, 5) // it is not down as yet
		d.Flush()
		for _, sectors := range []int{1, 2, 3} {
			if b, e := Read(d, 2, sectors, 5); e != api.ErrDown || len(b) != 0 {
				t.Fatalf("Read = %x, %d", b, e)
			}
		}
		for _, x := range []struct {
			first, sectors int
			seq            int64
		}{{1, 3, 5}, {2, 4, 5}, {2, 0, 5}, {2, 3, 0}, {2, 3, maxSeq + 1}, {5, 1, 5}, {math.MaxInt, 1, 5}} {
			if b, e := Read(d, x.first, x.sectors, x.seq); e != api.ErrArg || len(b) != 0 {
				t.Fatalf("Read(%v) = %x, %d", x, b, e)
			}
			if New(d, x.first, x.sectors, x.seq) != nil {
				t.Fatalf("New(%v) is one", x)
			}
		}
		checkRead(t, d, 2, 3, 5)
	}
}

// wrongSectors are bytes that no sector of a tape of that number has at that place, where so many bytes are ahead.
func wrongSectors(seq int64, place, begins int) [][]byte {
	b := text(begins, 20)
	right := plainSector(seq, place, begins, b)
	out := [][]byte{
		make([]byte, sectorLen), mixed(1), bytes.Repeat([]byte{255}, sectorLen),
		plainCell(seq, place, nil),
		plainCell(seq, place, []byte{byte(begins)}),
		plainSector(seq, place, begins, nil),
		plainSector(seq, place+1, begins, b),
		plainSector(seq, place+64, begins, b),
		plainSector(seq, (place+255)%256, begins, b),
		plainSector(seq-1, place, begins, b),
		plainSector(seq+1, place, begins, b),
		plainSector(seq^maxSeq, place, begins, b),
		plainSector(seq+1<<16, place, begins, b),
	}
	if high, low := byte(begins>>8), byte(begins); high != low {
		out = append(out, plainCell(seq, place, []byte{high, low, 1, 2, 3}))
	}
	for _, n := range []int{begins + 1, begins + 2, begins - 1, begins + 57, begins - 57, begins + 256, begins - 256, begins + 1<<15, begins ^ 0xffff} {
		out = append(out, plainSector(seq, place, n, b))
	}
	for bit := 0; bit < allBits; bit += 5 {
		turned := bytes.Clone(right)
		turned[bit/8] ^= 1 << (bit % 8)
		out = append(out, turned)
	}
	return out
}

// P11.1, K4: what is no sector of the tape, at each place, ends what is read there, whatever stands behind it.
func TestReadWrong(t *testing.T) {
	const sectors, seq = 8, 1000
	ahead := []int{57, 3, 57, 57, 57, 57, 1, 20}
	for at := range sectors {
		begins := 0
		for _, n := range ahead[:at] {
			begins += n
		}
		for k, wrong := range wrongSectors(seq, at, begins) {
			d := dev.New(sectors + 4)
			from := 0
			for i, n := range ahead {
				put(t, d, 2+i, plainSector(seq, i, from, text(from, n)))
				from += n
			}
			reads(t, d, 2, sectors, seq, text(0, from))
			put(t, d, 2+at, wrong)
			got, e := Read(d, 2, sectors, seq)
			if e != api.OK || !bytes.Equal(got, text(0, begins)) {
				t.Fatalf("the %d-th wrong one at %d: %x, %d; want %d bytes", k, at, got, e, begins)
			}
			checkRead(t, d, 2, sectors, seq)
			if at+1 < sectors { // a sector behind it that begins where it stands
				put(t, d, 2+at+1, plainSector(seq, at+1, begins, []byte("no")))
				reads(t, d, 2, sectors, seq, text(0, begins))
			}
		}
	}
}

// P11.1, K4: sectors of 0 alone, of numbers of which such a one has the right sum, have no bytes, and end what is read.
func TestZeros(t *testing.T) {
	for place, seq := range map[int]int64{0: 210330101, 1: 157619972, 2: 122784791, 3: 46004966, 4: 456702513, 31: 1688795578} {
		if b, is := cell.Get(make([]byte, sectorLen), seq, place); !is || len(b) != 0 {
			t.Fatalf("%d at %d: %x, %v", seq, place, b, is)
		}
		d := dev.New(2 + maxRow)
		x := made(t, d, 2, maxRow, seq)
		reads(t, d, 2, maxRow, seq, nil)
		for i := range place {
			appended(t, x, text(i, 1))
			synced(t, x)
		}
		b, e := Read(d, 2, maxRow, seq)
		if e != api.OK || len(b) != place {
			t.Fatalf("%d at %d: %x, %d", seq, place, b, e)
		}
		checkRead(t, d, 2, maxRow, seq)
	}
}

// P11.1, K4: Read tells its own row, and no more: its sectors alone, though those ahead of it or behind it would fit.
func TestReadRow(t *testing.T) {
	d := dev.New(12)
	for i := range 10 {
		put(t, d, 2+i, plainSector(5, i, 57*i, text(57*i, 57)))
	}
	for sectors := 1; sectors <= 10; sectors++ {
		reads(t, d, 2, sectors, 5, text(0, 57*sectors))
	}
	for first := 3; first < 12; first++ {
		for sectors := 1; first+sectors <= 12; sectors++ {
			reads(t, d, first, sectors, 5, nil)
		}
	}
	put(t, d, 7, plainSector(5, 0, 0, []byte("abc"))) // ahead of it stands what would be read from 2 on
	put(t, d, 8, plainSector(5, 1, 3, []byte("de")))
	reads(t, d, 7, 1, 5, []byte("abc"))
	reads(t, d, 7, 2, 5, []byte("abcde"))
	reads(t, d, 7, 5, 5, []byte("abcde"))
	reads(t, d, 2, 10, 5, text(0, 57*5))
}

// P11.1, K4: a sector that has fewer bytes than it has room for is read as it is, and the next one where it begins just behind it, synced or not.
func TestReadShort(t *testing.T) {
	for a := 1; a <= 57; a++ {
		for b := 1; b <= 57; b += 8 {
			d := dev.New(6)
			put(t, d, 2, plainSector(5, 0, 0, text(0, a)))
			put(t, d, 3, plainSector(5, 1, a, text(a, b)))
			put(t, d, 4, plainSector(5, 2, a+b, text(a+b, 57)))
			reads(t, d, 2, 4, 5, text(0, a+b+57))
			d.Flush()
			reads(t, d, 2, 4, 5, text(0, a+b+57))
		}
	}
}

// pair is a tape, and a plain one to which the same happens, each on a device of its own.
type pair struct {
	t    *testing.T
	d, e *dev.Dev
	x    *Tape
	p    *plain
	dead bool // behind an error nothing is said of a tape
}

func newPair(t *testing.T, size, first, sectors int, seq int64) *pair {
	t.Helper()
	x := &pair{t: t, d: dev.New(size), e: dev.New(size)}
	x.again(first, sectors, seq)
	return x
}

// again begins another tape on the same device.
func (x *pair) again(first, sectors int, seq int64) {
	x.t.Helper()
	x.x, x.p, x.dead = made(x.t, x.d, first, sectors, seq), newPlain(x.e, first, sectors, seq), false
}

// both does the same to the two devices.
func (x *pair) both(do func(d *dev.Dev)) {
	do(x.d)
	do(x.e)
}

// heed holds an error to the plain words; behind that of power the tape is told of no more.
func (x *pair) heed(what string, got, want api.Errno) {
	x.t.Helper()
	if got != want {
		x.t.Fatalf("%s = %d; want %d", what, got, want)
	}
	x.dead = x.dead || got == api.ErrDown
}

func (x *pair) append(b []byte) {
	x.t.Helper()
	if !x.dead {
		x.heed("Append", x.x.Append(b), x.p.append(b))
	}
}

func (x *pair) sync() {
	x.t.Helper()
	if !x.dead {
		x.heed("Sync", x.x.Sync(), x.p.sync())
	}
}

// same holds all that may be asked to the plain words.
func (x *pair) same() {
	x.t.Helper()
	if got, want := stateOf(x.d), stateOf(x.e); !got.same(want) {
		x.t.Fatalf("the device is %v; want %v", got, want)
	}
	if !x.dead {
		counts(x.t, x.x, len(x.p.all()), x.p.left())
	}
	for seq := x.p.seq - 1; seq <= x.p.seq+1; seq++ {
		checkRead(x.t, x.d, x.p.first, x.p.sectors, seq)
	}
}

// lengths are how many bytes are appended at once, at the edges of a sector.
var lengths = []int{0, 1, 2, 56, 57, 58, 114, 115}

// rowsOf calls do with each row of that many numbers below most.
func rowsOf(long, below int, do func(row []int)) {
	row := make([]int, long)
	for {
		do(row)
		i := 0
		for ; i < long; i++ {
			if row[i]++; row[i] < below {
				break
			}
			row[i] = 0
		}
		if i == long {
			return
		}
	}
}

// P11.2: what was appended is read, whatever was synced between: each row of four lengths, synced or not behind each of them; what had no room is not there.
func TestThereAndBack(t *testing.T) {
	const sectors = 5
	rowsOf(4, 2*len(lengths), func(row []int) {
		d := dev.New(sectors + 2)
		x := New(d, 2, sectors, 3)
		var all []byte
		for _, n := range row {
			b := text(len(all), lengths[n/2])
			left := x.Left()
			switch e := x.Append(b); {
			case e == api.OK && len(b) <= left:
				all = append(all, b...)
			case e != api.ErrFull || len(b) <= left:
				t.Fatalf("%v: %d", row, e)
			}
			if n%2 == 1 && x.Sync() != api.OK {
				t.Fatalf("%v: Sync", row)
			}
			if got, e := Read(d, 2, sectors, 3); e != api.OK || !bytes.Equal(got, all) || x.Len() != len(all) {
				t.Fatalf("%v: %x, %d, %d bytes; want %x", row, got, e, x.Len(), all)
			}
		}
	})
}

// P11.2: the longest row, with Syncs here and there, up to its last byte: each place at which a sector may begin is told whole.
func TestLong(t *testing.T) {
	for step := 1; step <= 200; step += 3 {
		x := newPair(t, 2+maxRow, 2, maxRow, int64(step))
		for n := 0; x.x.Left() > 0; n++ {
			x.append(text(x.x.Len(), min(step, x.x.Left())))
			if n%3 == step%3 {
				x.sync()
			}
		}
		x.same()
		reads(t, x.d, 2, maxRow, int64(step), text(0, x.x.Len()))
	}
}

// P11.2 and K3: no sector is written again that was flushed by a Sync: each row of four lengths, synced or not.
func TestNotAgain(t *testing.T) {
	const sectors = 6
	rowsOf(4, 2*len(lengths), func(row []int) {
		d := dev.New(sectors + 2)
		x := New(d, 2, sectors, 3)
		var flushed [sectors + 2][]byte
		for at, n := range row {
			x.Append(text(at, lengths[n/2]))
			loose := d.Loose()
			for _, i := range loose {
				if flushed[i] != nil {
					t.Fatalf("%v: the sector %d is written again", row, i)
				}
			}
			if n%2 == 0 {
				continue
			}
			x.Sync()
			for _, i := range loose {
				flushed[i], _ = d.Read(i)
			}
		}
		for i, b := range flushed {
			if b == nil {
				continue
			}
			if now, _ := d.Read(i); !bytes.Equal(now, b) {
				t.Fatalf("%v: the sector %d has changed", row, i)
			}
		}
	})
}

// scene is a device on whose row something stands already: nothing, no tape's bytes, or what another number's tape, or two, have left there.
func scene(t *testing.T, which, sectors int) *dev.Dev {
	t.Helper()
	d := dev.New(sectors + 3)
	switch which {
	case 1:
		for i := range sectors {
			put(t, d, 2+i, mixed(i))
		}
	case 2, 3:
		appended(t, made(t, d, 2, sectors, 8), text(1000, Room(sectors)))
		d.Flush()
		if which == 3 {
			x := made(t, d, 2, sectors, 6)
			for range sectors - 1 {
				appended(t, x, text(1, 3))
				synced(t, x)
			}
		}
	}
	d.Flush()
	return d
}

// script is what is appended, and where it is synced: what is below 0 is a Sync.
type script []int

var scripts = []script{
	{1}, {3, 4}, {57}, {58}, {60, 60}, {171},
	{3, -1, 2}, {3, -1, 57, 1}, {57, -1, 57, -1, 1}, {10, 20, -1, 30, 60, -1, 5, -1, -1, 2},
	{-1, 3, -1}, {114, 1, -1, 1, 1, -1, 40, 40}, {57, 57, 57, -1, 57}, {1, -1, 1, -1, 1, -1, 1, 56, 1}, {100, -1, 71, -1, 60},
}

// things is how many things a script does, told by doing it.
func (s script) things(t *testing.T, sectors int) int {
	d := scene(t, 0, sectors)
	done := d.Done()
	if _, _, e := s.run(New(d, 2, sectors, 7)); e != api.OK {
		t.Fatalf("%v: %d", s, e)
	}
	return d.Done() - done
}

// run does a script up to its first error: all that was appended, what the last Append has brought too, of which not all may be there; and how many bytes there were at the last Sync that was OK.
func (s script) run(x *Tape) ([]byte, int, api.Errno) {
	var all []byte
	kept := 0
	for _, n := range s {
		var e api.Errno
		if n < 0 {
			if e = x.Sync(); e == api.OK {
				kept = len(all)
			}
		} else {
			b := text(len(all), n)
			all = append(all, b...)
			e = x.Append(b)
		}
		if e != api.OK {
			return all, kept, e
		}
	}
	return all, kept, api.OK
}

// firstBytes holds what is read to the first bytes of all, kept of them at least.
func firstBytes(t *testing.T, d *dev.Dev, sectors int, seq int64, all []byte, kept int) []byte {
	t.Helper()
	got, e := Read(d, 2, sectors, seq)
	if e != api.OK || !bytes.HasPrefix(all, got) || len(got) < kept {
		t.Fatalf("Read = %x, %d; want the first bytes of %x, %d at least", got, e, all, kept)
	}
	return got
}

// P11.3: wherever power fails, whatever is kept, and whatever was on the row: the first bytes of all that was appended are read, all that were there at the last Sync at least. Up to the first loose sector that is gone all of them are.
func TestPrefix(t *testing.T) {
	const sectors = 7
	for _, s := range scripts {
		things := s.things(t, sectors)
		for cut := range things + 1 {
			for which := range 4 {
				many := -1
				keeps(sectors, func(keep []bool) {
					if many >= 0 && slices.Contains(keep[many:], true) {
						return // there are not so many that are loose
					}
					d := scene(t, which, sectors)
					d.Cut(cut)
					all, kept, e := s.run(New(d, 2, sectors, 7))
					if (e == api.OK) != (cut == things) {
						t.Fatalf("%v, cut %d: %d", s, cut, e)
					}
					many = len(d.Loose())
					d.Boot(keep, nil)
					got := firstBytes(t, d, sectors, 7, all, kept)
					if gone := slices.Index(keep[:many], false); gone >= 0 && len(got) != kept+57*gone {
						t.Fatalf("%v, cut %d, %v: %d bytes; want %d", s, cut, keep, len(got), kept+57*gone)
					}
					checkRead(t, d, 2, sectors, 7)
				})
			}
		}
	}
}

// P11.3: whatever turns within 32 bits of a sector, from each bit on: that sector is no tape's then, and what is ahead of it is read.
func TestTurned(t *testing.T) {
	const sectors = 5
	seed := uint64(3)
	for n, s := range []script{{57, -1, 60, 57, 3}, {3, -1, 100}, {171, 1}} {
		for which := range 4 {
			for at := -2; at < allBits+2; at++ {
				seed = seed*6364136223846793005 + 1442695040888963407
				bits := []uint32{1, 1 << 31, 0xffffffff, 0x82f63b78, 0x05ec76f1, uint32(seed >> 32), 1<<(seed>>59) | 1, 0}[(at+2+n)%8]
				d := scene(t, 2*(n%2), sectors)
				all, kept, _ := s.run(New(d, 2, sectors, 7))
				loose := d.Loose()
				d.Cut(0)
				d.Flush()
				keep := []bool{true, true, true, true, true}
				d.Boot(keep, []api.Hurt{{Which: which, At: at, Bits: bits}})
				got := firstBytes(t, d, sectors, 7, all, kept)
				if at < 0 || at >= allBits || which >= len(loose) {
					bits = 0
				} else if at+32 > allBits {
					bits &= 1<<(allBits-at) - 1 // beyond the end there are none
				}
				want := len(all)
				if bits != 0 {
					want = kept + 57*which
				}
				if len(got) != want {
					t.Fatalf("%v, bits %x at %d of %d: %d bytes; want %d", s, bits, at, which, len(got), want)
				}
				checkRead(t, d, 2, sectors, 7)
			}
		}
	}
}

// P11.3: a long row of scripts, each cut somewhere, with a number of its own, on one row that keeps what was left there.
func TestManyCuts(t *testing.T) {
	const sectors = 6
	seed := uint64(11)
	stir := func(n int) int {
		seed = seed*6364136223846793005 + 1442695040888963407
		return int(seed>>33) % n
	}
	for range 20 {
		d := dev.New(sectors + 3)
		for seq := int64(1); seq <= 100; seq++ {
			x := made(t, d, 2, sectors, seq)
			d.Cut(stir(12))
			var s script
			for range stir(8) + 1 {
				s = append(s, []int{stir(20), stir(70), -1}[stir(3)])
			}
			all, kept, e := s.run(x)
			if e == api.ErrFull {
				all = all[:x.Len()]
			}
			var keep []bool
			for range sectors {
				keep = append(keep, stir(4) > 0)
			}
			d.Boot(keep, []api.Hurt{{Which: stir(sectors), At: stir(allBits), Bits: uint32(stir(1<<31)) * uint32(stir(2))}})
			firstBytes(t, d, sectors, seq, all, kept)
			for other := max(1, seq-3); other <= seq; other++ {
				checkRead(t, d, 2, sectors, other)
			}
			if b, e := Read(d, 2, sectors, seq+1); e != api.OK || len(b) != 0 {
				t.Fatalf("%d: %x, %d", seq+1, b, e)
			}
		}
	}
}

// P11.4: what another number's tape has left there is not read: neither in full, nor behind what there is, though it begins just there, nor where nothing of one's own was kept.
func TestItsOwn(t *testing.T) {
	const sectors = 4
	numbers := []int64{1, 2, 3, 255, 256, 65536, maxSeq - 1, maxSeq}
	for bit := 2; bit < 31; bit++ {
		numbers = append(numbers, 1<<bit|1)
	}
	for _, mine := range numbers {
		for _, other := range numbers {
			if mine == other {
				continue
			}
			d := dev.New(sectors + 2)
			appended(t, made(t, d, 2, sectors, other), text(0, Room(sectors)))
			reads(t, d, 2, sectors, mine, nil)
			d.Flush()
			reads(t, d, 2, sectors, mine, nil)
			x := made(t, d, 2, sectors, mine)
			for i := range sectors {
				appended(t, x, text(500, 57))
				b, e := Read(d, 2, sectors, mine)
				if e != api.OK || len(b) != 57*(i+1) {
					t.Fatalf("%d behind %d: %x, %d", mine, other, b, e)
				}
				reads(t, d, 2, sectors, other, nil)
			}
			d.Boot([]bool{false, true, true}, nil)
			reads(t, d, 2, sectors, mine, nil)
			reads(t, d, 2, sectors, other, text(0, 57))
		}
	}
}

// P3: what is handed in is not changed, nor its spare room, and not kept.
func TestMemoryIn(t *testing.T) {
	for had := range 60 {
		for n := 0; n <= 120; n += 5 {
			d := dev.New(7)
			x := made(t, d, 2, 5, 3)
			for _, part := range [][2]int{{0, had}, {had, n}, {had + n, 1}} {
				given := append(text(part[0], part[1]), bytes.Repeat([]byte{99}, 200)...)
				before := bytes.Clone(given)
				appended(t, x, given[:part[1]])
				if !bytes.Equal(given, before) {
					t.Fatalf("%d and %d bytes: they, or what is behind them, have changed", had, n)
				}
				clear(given)
			}
			reads(t, d, 2, 5, 3, text(0, had+n+1))
			synced(t, x)
			appended(t, x, text(had+n+1, 2))
			reads(t, d, 2, 5, 3, text(0, had+n+3))
		}
	}
	d := dev.New(4)
	x := made(t, d, 2, 2, 3)
	given := bytes.Repeat([]byte{5}, 300)
	for _, n := range []int{115, 300} {
		if e := x.Append(given[:n]); e != api.ErrFull || !bytes.Equal(given, bytes.Repeat([]byte{5}, 300)) {
			t.Fatalf("%d: %x", e, given)
		}
	}
}

// P3: what comes out is one's own, its spare room too.
func TestMemoryOut(t *testing.T) {
	for _, n := range []int{1, 56, 57, 58, 150, 228} {
		for _, flush := range []bool{false, true} {
			d := dev.New(6)
			x := made(t, d, 2, 4, 3)
			appended(t, x, text(0, n))
			if flush {
				d.Flush()
			}
			first, _ := Read(d, 2, 4, 3)
			second, _ := Read(d, 2, 4, 3)
			clear(first[:cap(first)])
			if !bytes.Equal(second, text(0, n)) {
				t.Fatalf("another answer has changed to %x", second)
			}
			reads(t, d, 2, 4, 3, text(0, n))
			if n < 228 {
				appended(t, x, []byte{1})
				reads(t, d, 2, 4, 3, append(text(0, n), 1))
			}
			put(t, d, 2, mixed(1))
			if !bytes.Equal(second, text(0, n)) {
				t.Fatalf("what was told has changed with the device to %x", second)
			}
		}
	}
}

// P3: what a call answers hangs on its own tape, and device: of two on neighbouring rows, and of one on another device, each has its own bytes.
func TestTwoTapes(t *testing.T) {
	d, e := dev.New(10), dev.New(10)
	x, y, z := made(t, d, 2, 4, 3), made(t, d, 6, 4, 3), made(t, e, 2, 4, 3)
	for i := range 40 {
		appended(t, x, text(3*i, 3))
		appended(t, y, text(1000+5*i, 5))
		appended(t, z, text(2000+2*i, 2))
		reads(t, d, 2, 4, 3, text(0, 3*i+3))
		reads(t, d, 6, 4, 3, text(1000, 5*i+5))
		reads(t, e, 2, 4, 3, text(2000, 2*i+2))
		counts(t, x, 3*i+3, 228-3*i-3)
		counts(t, y, 5*i+5, 228-5*i-5)
		counts(t, z, 2*i+2, 228-2*i-2)
	}
	synced(t, x) // it flushes the other one's, too, which does not heed it
	counts(t, x, 120, 57)
	counts(t, y, 200, 28)
	if got := e.Loose(); !slices.Equal(got, []int{2, 3}) {
		t.Fatalf("%v is loose", got)
	}
	appended(t, y, text(1200, 28))
	if got := d.Loose(); !slices.Equal(got, []int{9}) {
		t.Fatalf("%v is loose", got)
	}
	reads(t, d, 6, 4, 3, text(1000, 228))
}

// steps are what may happen to a tape; n tells the place in the row, and with it what is appended.
var steps = []func(x *pair, n int){
	func(x *pair, n int) { x.append(text(n*100, 1+n)) },
	func(x *pair, n int) { x.append(text(n*100, 55)) },
	func(x *pair, n int) { x.append(text(n*100, 57)) },
	func(x *pair, n int) { x.append(text(n*100, 120)) },
	func(x *pair, n int) { x.sync() },
	func(x *pair, n int) { x.both(func(d *dev.Dev) { d.Cut(n % 3) }) },
	func(x *pair, n int) { x.both(func(d *dev.Dev) { d.Boot(nil, nil) }) },
	func(x *pair, n int) { x.both(func(d *dev.Dev) { d.Boot([]bool{true, n%2 == 0, true}, nil) }) },
	func(x *pair, n int) {
		x.both(func(d *dev.Dev) { d.Boot([]bool{true, true}, []api.Hurt{{Which: n % 2, At: 100 + n, Bits: 9}}) })
	},
	func(x *pair, n int) { x.again(2, x.p.sectors, x.p.seq+1) },
	func(x *pair, n int) { x.again(2, x.p.sectors, x.p.seq) }, // of the same number: what it left may be read
}

// P11.1 to P11.4: each row of four steps out of these, on rows of one, two and three sectors, held to the plain words behind each of them.
func TestRows(t *testing.T) {
	for sectors := 1; sectors <= 3; sectors++ {
		rowsOf(4, len(steps), func(row []int) {
			x := newPair(t, sectors+2, 2, sectors, 5)
			for n, step := range row {
				steps[step](x, n)
				x.same()
			}
		})
	}
}

// FuzzTape holds rows of steps, of any length, to the plain words.
func FuzzTape(f *testing.F) {
	f.Add([]byte{}, byte(2))
	f.Add([]byte{0, 4, 0, 3, 4, 5, 1, 2, 7, 9, 0, 4, 10, 0}, byte(4))
	f.Add([]byte{3, 3, 4, 5, 0, 8, 9, 1, 1, 4, 2}, byte(63))
	f.Fuzz(func(t *testing.T, row []byte, sectors byte) {
		n := int(sectors)%maxRow + 1
		x := newPair(t, n+3, 2, n, 5)
		for i, c := range row {
			steps[int(c)%len(steps)](x, i%57+int(c)/len(steps))
			x.same()
		}
	})
}
