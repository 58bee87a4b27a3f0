package super

import (
	"bytes"
	"encoding/binary"
	"encoding/hex"
	"hash/crc32"
	"math"
	"slices"
	"strings"
	"testing"

	"turntable/api"
	"turntable/dev"
	"turntable/table"
)

const (
	maxSeq     = 2147483648
	maxLen     = 3776
	sectorLen  = 64
	allBits    = 512
	genAt      = 8 // the first bit of a table's Gen in its sector
	genEnd     = 40
	maxSectors = 4096
)

// plainSlot is gen modulo 2, told by halves.
func plainSlot(gen int64) int {
	half := gen / 2
	if half*2 == gen {
		return 0
	}
	return 1
}

// plainSector is a right table's sector, byte by byte.
func plainSector(t api.Table) []byte {
	b := binary.LittleEndian.AppendUint32([]byte{byte(6 + 6*len(t.Exts))}, uint32(t.Gen))
	b = append(b, byte(len(t.Exts)), byte(t.Open+1))
	for _, e := range t.Exts {
		b = binary.LittleEndian.AppendUint32(b, uint32(e.Seq))
		b = binary.LittleEndian.AppendUint16(b, uint16(e.Len))
	}
	b = append(b, make([]byte, 60-len(b))...)
	head := append(binary.LittleEndian.AppendUint32(nil, uint32(t.Gen)), 255)
	sum := crc32.Checksum(append(head, b...), crc32.MakeTable(crc32.Castagnoli))
	return binary.LittleEndian.AppendUint32(b, sum)
}

// plainLoad is the chapter's words for what a device has: each sector asked for itself.
func plainLoad(d *dev.Dev) (api.Table, bool, api.Errno) {
	even, e := d.Read(0)
	if e != 0 {
		return api.Table{}, false, e
	}
	odd, e := d.Read(1)
	if e != 0 {
		return api.Table{}, false, e
	}
	a, isA := table.Get(even)
	b, isB := table.Get(odd)
	isA = isA && plainSlot(a.Gen) == 0
	isB = isB && plainSlot(b.Gen) == 1
	if isA && (!isB || a.Gen > b.Gen) {
		return a, true, 0
	}
	if isB {
		return b, true, 0
	}
	return api.Table{}, false, 0
}

// plainSave is the chapter's words for a Save.
func plainSave(d *dev.Dev, t api.Table) api.Errno {
	if !table.Right(t) {
		return 1
	}
	if e := d.Flush(); e != 0 {
		return e
	}
	if e := d.Write(plainSlot(t.Gen), plainSector(t)); e != 0 {
		return e
	}
	return d.Flush()
}

// same: two tables that are told by the same numbers.
func same(a, b api.Table) bool {
	return a.Gen == b.Gen && a.Open == b.Open && slices.Equal(a.Exts, b.Exts)
}

// of is a right table of that Gen; what else it has hangs on n.
func of(gen int64, n int) api.Table {
	t := api.Table{Gen: gen, Open: -1, Exts: make([]api.Ext, 4+n%5)}
	for i := range t.Exts {
		if (n>>i)&1 == 1 {
			t.Exts[i] = api.Ext{Seq: int64(1+i*7+n)%maxSeq + 1, Len: (n*97 + i*1009) % (maxLen + 1)}
		}
	}
	if last := len(t.Exts) - 1; n%3 == 0 {
		t.Open, t.Exts[last] = last, api.Ext{Seq: maxSeq}
	}
	return t
}

// edges are right tables at the edges of what one may be.
func edges() []api.Table {
	full := api.Table{Gen: maxSeq, Open: -1}
	for i := range 8 {
		full.Exts = append(full.Exts, api.Ext{Seq: int64(maxSeq - i), Len: maxLen})
	}
	odd := api.Table{Gen: maxSeq - 1, Open: 3, Exts: []api.Ext{{Seq: 1, Len: maxLen}, {Seq: 2}, {}, {Seq: maxSeq}}}
	out := []api.Table{full, odd, {Gen: 1, Open: -1, Exts: make([]api.Ext, 4)}, {Gen: 2, Open: -1, Exts: make([]api.Ext, 8)}}
	for n := range 40 {
		out = append(out, of(int64(n)*int64(n)*1237+1, n))
	}
	return out
}

// wrongTables are none that is right, of Gens of both slots.
func wrongTables() []api.Table {
	out := []api.Table{{}, {Gen: 3, Open: -1}, {Gen: 4, Open: -1}, {Gen: 4, Open: -1, Exts: make([]api.Ext, 3)}, {Gen: 5, Open: -1, Exts: make([]api.Ext, 9)}}
	for _, gen := range []int64{math.MinInt64, math.MinInt64 + 1, -1 << 32, 1 - 1<<32, -maxSeq, -4, -3, -2, -1, 0, maxSeq + 1, maxSeq + 2, 1 << 32, 1<<32 + 3, 1<<32 + 4, math.MaxInt64 - 1, math.MaxInt64} {
		out = append(out, of(gen, 5))
	}
	for _, gen := range []int64{7, 8} {
		for _, change := range []func(t *api.Table){
			func(t *api.Table) { t.Open = 0 },
			func(t *api.Table) { t.Open = -2 },
			func(t *api.Table) { t.Open = 4 },
			func(t *api.Table) { t.Exts[1] = api.Ext{Len: 1} },
			func(t *api.Table) { t.Exts[1] = api.Ext{Seq: -1} },
			func(t *api.Table) { t.Exts[1] = api.Ext{Seq: maxSeq + 1} },
			func(t *api.Table) { t.Exts[1] = api.Ext{Seq: 5, Len: maxLen + 1} },
			func(t *api.Table) { t.Exts[1], t.Exts[2] = api.Ext{Seq: 5}, api.Ext{Seq: 5} },
		} {
			t := api.Table{Gen: gen, Open: -1, Exts: make([]api.Ext, 4)}
			change(&t)
			out = append(out, t)
		}
	}
	return out
}

// mixed is a sector's bytes of all sorts, no table's, other ones for each n.
func mixed(n int) []byte {
	b := make([]byte, sectorLen)
	for i := range b {
		b[i] = byte(n*31 + i*7)
	}
	return b
}

// bools are the n lowest bits of a number.
func bools(n, bits int) []bool {
	out := make([]bool, n)
	for i := range out {
		out[i] = bits>>i&1 == 1
	}
	return out
}

// keeps calls do with each list of bools of up to most.
func keeps(most int, do func(keep []bool)) {
	for n := range most + 1 {
		for bits := range 1 << n {
			do(bools(n, bits))
		}
	}
}

// device is one that has these bytes, kept, in its first sectors.
func device(t *testing.T, sectors int, first ...[]byte) *dev.Dev {
	t.Helper()
	d := dev.New(sectors)
	for i, b := range first {
		if b == nil {
			continue
		}
		if e := d.Write(i, b); e != api.OK {
			t.Fatalf("Write(%d) = %d", i, e)
		}
	}
	d.Flush()
	return d
}

// state is all that may be seen of a device but what its Reads tell when it is down.
type state struct {
	done  int
	down  bool
	loose []int
	all   [][]byte
}

func stateOf(d *dev.Dev) state {
	s := state{done: d.Done(), down: d.Down(), loose: d.Loose()}
	for i := range d.Size() {
		b, _ := d.Read(i)
		s.all = append(s.all, b)
	}
	return s
}

func (s state) same(x state) bool {
	return s.done == x.done && s.down == x.down && slices.Equal(s.loose, x.loose) && slices.EqualFunc(s.all, x.all, bytes.Equal)
}

// checkLoad holds Load to the plain words, twice; it changes nothing of the device.
func checkLoad(t *testing.T, d *dev.Dev) {
	t.Helper()
	before := stateOf(d)
	want, is, e := plainLoad(d)
	for range 2 {
		got, ok, f := Load(d)
		if !same(got, want) || ok != is || f != e {
			t.Fatalf("Load = %v, %v, %d; want %v, %v, %d", got, ok, f, want, is, e)
		}
		if (f != api.OK || !ok) && (!same(got, api.Table{}) || ok) {
			t.Fatalf("Load = %v, %v, %d", got, ok, f)
		}
	}
	if after := stateOf(d); !after.same(before) {
		t.Fatalf("behind Load: %v; ahead of it %v", after, before)
	}
}

// loaded holds Load to one table, and to the plain words.
func loaded(t *testing.T, d *dev.Dev, want api.Table) {
	t.Helper()
	checkLoad(t, d)
	if got, is, e := Load(d); !is || e != api.OK || !same(got, want) {
		t.Fatalf("Load = %v, %v, %d; want %v", got, is, e, want)
	}
}

// none holds Load to no table, and that error.
func none(t *testing.T, d *dev.Dev, want api.Errno) {
	t.Helper()
	checkLoad(t, d)
	if got, is, e := Load(d); is || e != want || !same(got, api.Table{}) {
		t.Fatalf("Load = %v, %v, %d; want none, %d", got, is, e, want)
	}
}

// saved has a table be saved, which has no error.
func saved(t *testing.T, d *dev.Dev, x api.Table) {
	t.Helper()
	if e := Save(d, x); e != api.OK {
		t.Fatalf("Save(%v) = %d", x, e)
	}
}

// P10.1: the chapter's example: where nothing was saved there is none.
func TestExample(t *testing.T) {
	for _, n := range []int{2, 3, 64, maxSectors} {
		none(t, dev.New(n), api.OK)
	}
}

// P10.1: the errors' numbers are the chapter's; of no table, and no table that is right, nothing is said as an error.
func TestNumbers(t *testing.T) {
	d := dev.New(2)
	if e := Save(d, api.Table{}); e != 1 {
		t.Error(e)
	}
	if _, _, e := Load(dev.New(1)); e != 1 {
		t.Error(e)
	}
	d.Cut(0)
	if e := Save(d, of(1, 1)); e != 71 {
		t.Error(e)
	}
	if _, _, e := Load(d); e != 71 {
		t.Error(e)
	}
}

// P10.1, J1: the slot of each Gen, of one below 0 too, is 0 or 1, in turn.
func TestSlot(t *testing.T) {
	for _, x := range []struct {
		gen  int64
		slot int
	}{{0, 0}, {1, 1}, {2, 0}, {3, 1}, {-1, 1}, {-2, 0}, {-3, 1}, {maxSeq - 1, 1}, {maxSeq, 0}, {maxSeq + 1, 1}, {1 << 32, 0}, {1<<32 + 1, 1}, {-1 << 32, 0}, {-1<<32 - 1, 1}, {math.MaxInt64, 1}, {math.MaxInt64 - 1, 0}, {math.MinInt64, 0}, {math.MinInt64 + 1, 1}} {
		if got := Slot(x.gen); got != x.slot {
			t.Errorf("Slot(%d) = %d; want %d", x.gen, got, x.slot)
		}
	}
	for gen := int64(-1000); gen <= 1000; gen++ {
		if got, want := Slot(gen), plainSlot(gen); got != want || got+Slot(gen+1) != 1 {
			t.Errorf("Slot(%d) = %d; want %d", gen, got, want)
		}
	}
}

// P10.1, J2: a table whose sector is known stands in its slot.
func TestKnown(t *testing.T) {
	d := dev.New(3)
	x := api.Table{Gen: 3, Open: 2, Exts: []api.Ext{{Seq: 5, Len: 300}, {}, {Seq: 6}, {}}}
	saved(t, d, x)
	want := "1e" + "03000000" + "04" + "03" + "05000000" + "2c01" + "000000000000" + "060000000000" + strings.Repeat("0", 58+12) + "9867017d"
	for i := range 3 {
		b, _ := d.Read(i)
		if got := hex.EncodeToString(b); (got == want) != (i == 1) {
			t.Errorf("the sector %d is %s; want %s in 1", i, got, want)
		}
	}
	loaded(t, d, x)
}

// P10.1, J1: what two sectors have, of all pairs: nothing, other bytes, tables in their own slot and in the other one's, of greater and lesser Gens, and such of which a bit has turned; be they kept or loose.
func TestLoad(t *testing.T) {
	contents := [][]byte{make([]byte, sectorLen), mixed(1), bytes.Repeat([]byte{255}, sectorLen)}
	for i, gen := range []int64{1, 2, 3, 4, 7, 8, 255, 256, 65535, 65536, maxSeq - 1, maxSeq} {
		s := plainSector(of(gen, i))
		contents = append(contents, s, plainSector(of(gen, i+20)))
		turned := bytes.Clone(s)
		turned[i*5] ^= 1 << (i % 8)
		contents = append(contents, turned)
	}
	for _, x := range wrongTables() {
		if len(x.Exts) <= 8 {
			contents = append(contents, plainSector(x))
		}
	}
	told := map[int]int{}
	for _, a := range contents {
		for _, b := range contents {
			d := device(t, 2, a, b)
			checkLoad(t, d)
			x, is, _ := Load(d)
			if is {
				told[Slot(x.Gen)]++
			} else {
				told[2]++
			}
			d = dev.New(3)
			d.Write(0, a)
			d.Write(1, b)
			d.Write(2, plainSector(of(9, 1))) // no slot
			checkLoad(t, d)
			if y, ok, _ := Load(d); ok != is || !same(x, y) {
				t.Fatalf("%v, %v where it is loose; %v, %v where it is kept", y, ok, x, is)
			}
		}
	}
	if len(told) != 3 {
		t.Errorf("%v", told)
	}
}

// P10.1, J1: a table that stands in the other slot is none, whatever its Gen is; one in the right one is told beside it.
func TestOtherSlot(t *testing.T) {
	for _, gen := range []int64{1, 2, 3, 8, 9, 256, 257, maxSeq - 1, maxSeq} {
		x := of(gen, 3)
		rows := [][]byte{nil, nil}
		rows[1-plainSlot(gen)] = plainSector(x)
		none(t, device(t, 2, rows...), api.OK)
		for _, other := range []int64{gen%2 + 1, gen%2 + 3} { // of the other parity, so that both stand in one sector in turn
			y := of(other, 4)
			d := device(t, 2, rows...)
			saved(t, d, y)
			loaded(t, d, y)
			d = device(t, 2, plainSector(y), plainSector(y)) // in both
			loaded(t, d, y)
		}
	}
}

// P10.1, J1: of the first sector that can't be read the error is told: of a device of one sector ErrArg, whatever that has; of one that is down ErrDown, of one sector too.
func TestLoadError(t *testing.T) {
	for _, b := range [][]byte{nil, mixed(1), plainSector(of(2, 1)), plainSector(of(3, 1))} {
		d := device(t, 1, b)
		none(t, d, api.ErrArg)
		d.Cut(0)
		none(t, d, api.ErrArg) // it is not down as yet
		d.Flush()
		none(t, d, api.ErrDown)
		d.Boot(nil, nil)
		none(t, d, api.ErrArg)
	}
	for _, n := range []int{2, 3, maxSectors} {
		for _, x := range []api.Table{of(2, 1), of(3, 1)} {
			d := dev.New(n)
			saved(t, d, x)
			d.Cut(0)
			loaded(t, d, x)
			d.Flush()
			none(t, d, api.ErrDown)
			none(t, d, api.ErrDown)
			d.Boot(nil, nil)
			loaded(t, d, x)
		}
	}
}

// P10.1, J2: of a table that is not right Save is ErrArg, on a device of one sector, and on one that is down, too; nothing is done by that, and nothing flushed or cut.
func TestSaveArg(t *testing.T) {
	for _, n := range []int{1, 2, 5} {
		for cut := -1; cut <= 2; cut++ {
			d := device(t, n, mixed(1))
			d.Write(n-1, mixed(2))
			if cut == 2 { // it is down then
				d.Cut(0)
				d.Flush()
			} else {
				d.Cut(cut)
			}
			before := stateOf(d)
			for _, x := range wrongTables() {
				if table.Right(x) {
					t.Fatalf("%v is right", x)
				}
				if e := Save(d, x); e != api.ErrArg {
					t.Fatalf("%d sectors, cut %d: Save(%v) = %d", n, cut, x, e)
				}
				if after := stateOf(d); !after.same(before) {
					t.Fatalf("%d sectors, cut %d: Save(%v) has changed %v to %v", n, cut, x, before, after)
				}
			}
			d.Flush() // is it cut just as far away as it was?
			d.Flush()
			if want := before.done + []int{2, 0, 1, 0}[cut+1]; d.Done() != want {
				t.Fatalf("%d sectors, cut %d: %d things; want %d", n, cut, d.Done(), want)
			}
		}
	}
}

// P10.1, J2: a Save that is OK is three things; behind it nothing is loose, its sector has the table, and each other one what it had.
func TestSave(t *testing.T) {
	for _, n := range []int{2, 3, 9, maxSectors} {
		list := edges()
		if n > 9 {
			list = list[:2]
		}
		for _, x := range list {
			d := device(t, n, mixed(1), mixed(2))
			d.Write(n-1, mixed(3))
			d.Write(n/2, mixed(4))
			before := stateOf(d)
			saved(t, d, x)
			after := stateOf(d)
			if after.done != before.done+3 || after.down || len(after.loose) != 0 {
				t.Fatalf("%d sectors: %v; ahead of it %v", n, after, before)
			}
			before.all[plainSlot(x.Gen)] = plainSector(x)
			if !slices.EqualFunc(after.all, before.all, bytes.Equal) {
				t.Fatalf("%d sectors: %x; want %x", n, after.all, before.all)
			}
			d.Boot(nil, nil)
			if !stateOf(d).same(after) {
				t.Fatalf("%d sectors: %v behind a Boot; want %v", n, stateOf(d), after)
			}
			loaded(t, d, x)
		}
	}
}

// P10.1, J2: on a device of one sector a table of an even Gen is saved; of an odd one there is the Flush, and then the Write's ErrArg, which is no thing, and no Flush.
func TestSaveOne(t *testing.T) {
	for cut := -1; cut <= 3; cut++ {
		for _, gen := range []int64{2, 3, maxSeq - 1, maxSeq} {
			d := device(t, 1, mixed(1))
			d.Write(0, mixed(2))
			d.Cut(cut)
			done, got := d.Done(), Save(d, of(gen, 6))
			things, want := 3, api.OK
			if gen%2 == 1 {
				things, want = 1, api.ErrArg
			}
			if cut >= 0 && cut < things {
				things, want = cut, api.ErrDown
			}
			if got != want || d.Done() != done+things || d.Down() != (want == api.ErrDown) {
				t.Fatalf("cut %d, Gen %d: %d, %d things, %v; want %d, %d", cut, gen, got, d.Done()-done, d.Down(), want, things)
			}
			d.Boot(nil, nil)
			b, _ := d.Read(0)
			has := [][]byte{mixed(1), mixed(2), mixed(2), plainSector(of(gen, 6))}[things]
			if !bytes.Equal(b, has) {
				t.Fatalf("cut %d, Gen %d: %x; want %x", cut, gen, b, has)
			}
			none(t, d, api.ErrArg)
		}
	}
}

// P10.1, J2: power fails at each thing: ahead of that there is first the Flush of all that is loose, then the Write to the slot, and then its Flush; nothing else is done, and nothing behind it.
func TestSaveCut(t *testing.T) {
	for _, x := range edges() {
		slot := plainSlot(x.Gen)
		for cut := range 3 {
			d := device(t, 6, mixed(1), mixed(2))
			for _, i := range []int{5, slot, 3} { // in the slot, too
				d.Write(i, mixed(10+i))
			}
			d.Cut(cut)
			done := d.Done()
			if e := Save(d, x); e != api.ErrDown || !d.Down() || d.Done() != done+cut {
				t.Fatalf("cut %d: %d, %v, %d things", cut, e, d.Down(), d.Done()-done)
			}
			if got, want := d.Loose(), [][]int{{slot, 3, 5}, nil, {slot}}[cut]; !slices.Equal(got, want) {
				t.Fatalf("cut %d: %v is loose; want %v", cut, got, want)
			}
			if e := Save(d, x); e != api.ErrDown || d.Done() != done+cut { // down it is, and stays
				t.Fatalf("cut %d: %d, %d things", cut, e, d.Done()-done)
			}
			d.Boot([]bool{true, true, true}, nil)
			want := [][]byte{mixed(1), mixed(2), make([]byte, sectorLen), mixed(13), make([]byte, sectorLen), mixed(15)}
			want[slot] = mixed(10 + slot)
			if cut == 2 {
				want[slot] = plainSector(x)
			}
			if got := stateOf(d).all; !slices.EqualFunc(got, want, bytes.Equal) {
				t.Fatalf("cut %d: %x; want %x", cut, got, want)
			}
			checkLoad(t, d)
		}
		d := dev.New(6)
		d.Cut(3) // behind it
		saved(t, d, x)
		if d.Down() || d.Flush() != api.ErrDown {
			t.Fatal("it is cut elsewhere")
		}
	}
}

// P10.2: what was saved is loaded, at once and behind a Boot, if none with a greater Gen was; what stands in the other slot does not matter.
func TestThereAndBack(t *testing.T) {
	for _, x := range edges() {
		for _, other := range [][]byte{nil, mixed(1), plainSector(of(x.Gen, 9)), plainSector(of(max(1, x.Gen-1), 9))} {
			first := [][]byte{other, other}
			d := device(t, 2, first...)
			saved(t, d, x)
			for range 2 {
				loaded(t, d, x)
				d.Boot([]bool{true}, []api.Hurt{{Bits: 1}})
			}
		}
	}
	for _, from := range []int64{1, 2, 254, 255, 65534, 1<<24 - 3, maxSeq - 19} { // one behind the other
		d := dev.New(4)
		for i := range 20 {
			x := of(from+int64(i), i)
			saved(t, d, x)
			loaded(t, d, x)
		}
	}
}

// P10.1 and P10.2: each row of five Saves, of Gens of 1 to 5: the greater one that its slot still has is loaded, and the last one, if none ahead of it was greater; of two of one Gen the last one.
func TestRowsOfGens(t *testing.T) {
	const long = 5
	many := 1
	for range long {
		many *= 5
	}
	for row := range many {
		d := dev.New(2)
		var slots [2]api.Table
		greatest := int64(0)
		for i, rest := 0, row; i < long; i, rest = i+1, rest/5 {
			x := of(int64(rest%5)+1, row%31+i)
			saved(t, d, x)
			slots[x.Gen%2] = x
			want := slots[0]
			if slots[1].Gen > want.Gen {
				want = slots[1]
			}
			if x.Gen >= greatest {
				greatest = x.Gen
				if !same(want, x) {
					t.Fatalf("row %d: the plain words tell %v; want %v", row, want, x)
				}
			}
			loaded(t, d, want)
		}
	}
}

// scene is a device that has an old table, and in the other slot what is to be written over; two sectors are loose.
func scene(t *testing.T, old api.Table, other []byte) *dev.Dev {
	t.Helper()
	first := [][]byte{other, other, mixed(20), mixed(30)}
	first[plainSlot(old.Gen)] = plainSector(old)
	d := device(t, 5, first...)
	loaded(t, d, old)
	d.Write(3, mixed(31))
	d.Write(2, mixed(21))
	return d
}

// others are what may stand in a slot ahead of a Save of a Gen: nothing, other bytes, what was saved there last, or longer ago, what half a Save has left, a table of the other slot.
func others(gen int64) [][]byte {
	out := [][]byte{nil, mixed(5), plainSector(of(gen-1, 7))}
	for _, ago := range []int64{2, 4, 256} {
		if gen > ago {
			s := plainSector(of(gen-ago, 8))
			turned := bytes.Clone(s)
			turned[ago%64] ^= 5
			out = append(out, s, turned)
		}
	}
	return out
}

// oldGens are Gens that a table has ahead of one that is one more: at each bit, and at the edges.
func oldGens() []int64 {
	out := []int64{1, 2, 3, 254, 255, 256, 257, 65535, 65536, maxSeq - 2, maxSeq - 1}
	for bit := 3; bit < 31; bit += 3 {
		out = append(out, 1<<bit, 1<<bit-1)
	}
	return out
}

// P10.3 and P10.4: wherever power fails, and whatever is kept, the old table is loaded, or the new one: that one, if Save was OK, or all of it is kept; and where it is loaded all that was written ahead is there.
func TestOneOrTheOther(t *testing.T) {
	for n, gen := range oldGens() {
		old, next := of(gen, n), of(gen+1, n+3)
		for _, other := range others(gen + 1) {
			for cut := range 5 {
				keeps(3, func(keep []bool) {
					d := scene(t, old, other)
					d.Cut(cut)
					e := Save(d, next)
					if (e == api.OK) != (cut >= 3) {
						t.Fatalf("cut %d: %d", cut, e)
					}
					d.Boot(keep, nil)
					if cut >= 3 || cut == 2 && len(keep) > 0 && keep[0] {
						loaded(t, d, next)
					} else {
						loaded(t, d, old)
					}
					for i, want := range [][]byte{mixed(21), mixed(31)} {
						if b, _ := d.Read(2 + i); cut > 0 && !bytes.Equal(b, want) {
							t.Fatalf("cut %d: the sector %d has %x", cut, 2+i, b)
						}
					}
					saved(t, d, next) // again, behind all that
					loaded(t, d, next)
				})
			}
		}
	}
}

// notGen is of bits, from the at-th one of a sector on, those that are not its Gen's.
func notGen(at int, bits uint32) uint32 {
	for n := range 32 {
		if genAt <= at+n && at+n < genEnd {
			bits &^= 1 << n
		}
	}
	return bits
}

// P10.3: whatever turns within 32 bits of the sector, from each bit on, but in its Gen, the old table is loaded then; the new one, if nothing has turned.
func TestTurned(t *testing.T) {
	seed := uint64(3)
	for n, gen := range []int64{1, 2, 7, 256, 65535, maxSeq - 1} {
		old, next := of(gen, n), of(gen+1, n+7)
		for at := range allBits {
			seed = seed*6364136223846793005 + 1442695040888963407
			for _, bits := range []uint32{0, 1, 3, 0x80000001, 0xffffffff, 0x55555555, uint32(seed >> 32), 1 << (seed >> 59), 0x82f63b78, 0x05ec76f1} {
				bits = notGen(at, bits)
				d := scene(t, old, plainSector(of(max(1, gen-1), 9)))
				d.Cut(2)
				if e := Save(d, next); e != api.ErrDown {
					t.Fatalf("Save = %d", e)
				}
				d.Boot([]bool{true}, []api.Hurt{{Which: 0, At: at, Bits: bits}})
				if at+32 > allBits {
					bits &= 1<<(allBits-at) - 1 // beyond the end there are none
				}
				if bits == 0 {
					loaded(t, d, next)
				} else {
					loaded(t, d, old)
				}
			}
		}
	}
}

// P10.3: what turns where power fails at another thing is not the table's.
func TestTurnedElsewhere(t *testing.T) {
	for _, gen := range []int64{1, 2} {
		for at := 0; at < allBits; at += 7 {
			for _, cut := range []int{0, 1, 3, 4} {
				old, next := of(gen, 4), of(gen+1, 5)
				d := scene(t, old, nil)
				d.Cut(cut)
				Save(d, next)
				var hurt []api.Hurt
				for which := -1; which < 4; which++ {
					hurt = append(hurt, api.Hurt{Which: which, At: at, Bits: 0xffffffff})
				}
				d.Boot([]bool{true, true, true}, hurt)
				if cut >= 3 {
					loaded(t, d, next)
				} else {
					loaded(t, d, old)
				}
			}
		}
	}
}

// P10.1, J1: the one way in which a Gen can turn, and its sum still fit, leads to a Gen of the other slot: the table is right, and not loaded.
func TestTurnedGen(t *testing.T) {
	const bits = 0xfca42daf
	for _, gen := range []int64{bits & (maxSeq - 1), maxSeq} {
		next := of(gen, 5)
		old := of(gen-1, 6)
		d := scene(t, old, nil)
		d.Cut(2)
		Save(d, next)
		d.Boot([]bool{true}, []api.Hurt{{At: genAt, Bits: bits}})
		b, _ := d.Read(plainSlot(gen))
		if x, is := table.Get(b); !is || x.Gen == gen || plainSlot(x.Gen) == plainSlot(gen) {
			t.Fatalf("the sector has %v, %v", x, is)
		}
		loaded(t, d, old)
	}
}

// P10.3: a long row of Saves, each cut somewhere, with a Gen one more than what is loaded: no Gen is ever lost again, and each that was OK is there.
func TestLongRow(t *testing.T) {
	seed := uint64(11)
	stir := func(n int) int {
		seed = seed*6364136223846793005 + 1442695040888963407
		return int(seed>>33) % n
	}
	for range 50 {
		d := dev.New(3)
		last := of(1, 1)
		saved(t, d, last)
		for i := range 60 {
			next := of(last.Gen+1, i)
			cut := stir(5)
			d.Cut(cut)
			d.Write(2, mixed(i))
			e := Save(d, next)
			at := stir(allBits)
			d.Boot(bools(2, stir(4)), []api.Hurt{{Which: stir(2), At: at, Bits: notGen(at, uint32(stir(1<<31))*uint32(stir(2)))}})
			checkLoad(t, d)
			got, is, _ := Load(d)
			if !is || !same(got, next) && (e == api.OK || !same(got, last)) {
				t.Fatalf("%v, %v is loaded; %v was, and then there was %v, %d", got, is, last, next, e)
			}
			last = got
		}
	}
}

// P10.4: all that was written ahead of a Save that was OK is kept, in each sector, in the slots too, whatever a Boot keeps.
func TestBarrier(t *testing.T) {
	for _, n := range []int{2, 3, 40, maxSectors} {
		for gen := int64(1); gen <= 2; gen++ {
			for _, keep := range [][]bool{nil, {true, true}} {
				d := dev.New(n)
				for i := range n {
					d.Write(n-1-i, mixed(i))
				}
				x := of(gen, 7)
				saved(t, d, x)
				for i := range n {
					d.Write(i, make([]byte, sectorLen))
				}
				d.Cut(0)
				d.Flush()
				if keep == nil {
					d.Boot(nil, nil)
				} else {
					d.Boot(make([]bool, n), []api.Hurt{{Which: 0, Bits: 1}})
				}
				for i := range n {
					want := mixed(n - 1 - i)
					if i == plainSlot(gen) {
						want = plainSector(x)
					}
					if b, e := d.Read(i); e != api.OK || !bytes.Equal(b, want) {
						t.Fatalf("%d sectors: %d has %x, %d; want %x", n, i, b, e, want)
					}
				}
			}
		}
	}
}

// P10.4: a Save whose table is loaded behind a power cut, OK or not, has had all be kept that was written ahead: the table never tells of what is not there.
func TestBarrierAhead(t *testing.T) {
	for cut := range 4 {
		keeps(4, func(keep []bool) {
			for gen := int64(1); gen <= 2; gen++ {
				d := dev.New(8)
				for i := 2; i < 8; i++ {
					d.Write(i, mixed(i))
				}
				d.Cut(cut)
				Save(d, of(gen, 1))
				d.Boot(keep, nil)
				_, is, _ := Load(d)
				for i := 2; is && i < 8; i++ {
					if b, _ := d.Read(i); !bytes.Equal(b, mixed(i)) {
						t.Fatalf("cut %d, %v: the table is there, and the sector %d has %x", cut, keep, i, b)
					}
				}
			}
		})
	}
}

// P3: what is handed in is not changed, nor its spare room, and not kept.
func TestMemoryIn(t *testing.T) {
	for _, x := range append(edges(), wrongTables()...) {
		spare := append(slices.Clone(x.Exts), slices.Repeat([]api.Ext{{Seq: 55, Len: 66}}, 10)...)
		before := slices.Clone(spare)
		given := x
		given.Exts = spare[:len(x.Exts)]
		for _, cut := range []int{-1, 2} {
			d := dev.New(3)
			d.Cut(cut)
			Save(d, given)
			if !slices.Equal(spare, before) {
				t.Fatalf("%v: the extents, or what is behind them, have changed", x)
			}
			clear(spare)
			d.Boot([]bool{true}, nil)
			if got, is, e := Load(d); e != api.OK || is != table.Right(x) || is && !same(got, x) {
				t.Fatalf("Load = %v, %v, %d; want %v", got, is, e, x)
			}
			copy(spare, before)
		}
	}
}

// P3: what comes out is one's own, its spare room too.
func TestMemoryOut(t *testing.T) {
	for _, x := range edges() {
		d := dev.New(2)
		saved(t, d, x)
		first, _, _ := Load(d)
		second, _, _ := Load(d)
		clear(first.Exts[:cap(first.Exts)])
		if !same(second, x) {
			t.Fatalf("%v: another answer has changed to %v", x, second)
		}
		loaded(t, d, x)
		saved(t, d, of(x.Gen%maxSeq+1, 2))
		d.Write(plainSlot(x.Gen), mixed(1))
		if !same(second, x) {
			t.Fatalf("%v: what was told has changed with the device to %v", x, second)
		}
	}
}

// P3: what a call answers hangs on its device alone: two devices do not touch.
func TestTwoDevices(t *testing.T) {
	a, b := dev.New(2), dev.New(2)
	for i := range 20 {
		x, y := of(int64(i)+1, i), of(int64(40-i), i+9)
		saved(t, a, x)
		before := stateOf(a)
		saved(t, b, y)
		if !stateOf(a).same(before) {
			t.Fatal("a Save to one device has changed another one")
		}
		loaded(t, a, x)
		checkLoad(t, b)
		none(t, dev.New(2), api.OK)
	}
}

// pair is a device, and one to which the same happens by the plain words.
type pair struct {
	d, p *dev.Dev
}

// both does the same to the two.
func (x pair) both(do func(d *dev.Dev)) {
	do(x.d)
	do(x.p)
}

// save holds a Save to the plain words, and what is behind it.
func (x pair) save(t *testing.T, y api.Table) {
	t.Helper()
	if got, want := Save(x.d, y), plainSave(x.p, y); got != want {
		t.Fatalf("Save(%v) = %d; want %d", y, got, want)
	}
}

func (x pair) same(t *testing.T) {
	t.Helper()
	if got, want := stateOf(x.d), stateOf(x.p); !got.same(want) {
		t.Fatalf("the device is %v; want %v", got, want)
	}
	checkLoad(t, x.d)
}

// steps are what may happen to a device; n tells the place in the row, and with it what is written.
func steps(t *testing.T) []func(x pair, n int) {
	return []func(x pair, n int){
		func(x pair, n int) { x.save(t, of(int64(n)+1, n)) },
		func(x pair, n int) { x.save(t, of(int64(n)+2, n)) },
		func(x pair, n int) { x.save(t, of(3, n)) },
		func(x pair, n int) { x.save(t, of(0, n)) },
		func(x pair, n int) { x.both(func(d *dev.Dev) { d.Write(n%2, mixed(n)) }) },
		func(x pair, n int) { x.both(func(d *dev.Dev) { d.Write(1, plainSector(of(5, n))) }) },
		func(x pair, n int) { x.both(func(d *dev.Dev) { d.Cut(n % 3) }) },
		func(x pair, n int) { x.both(func(d *dev.Dev) { d.Boot(nil, nil) }) },
		func(x pair, n int) { x.both(func(d *dev.Dev) { d.Boot([]bool{true, true}, nil) }) },
		func(x pair, n int) {
			x.both(func(d *dev.Dev) { d.Boot([]bool{true}, []api.Hurt{{At: 100 + n, Bits: 9}}) })
		},
	}
}

// P10.1 to P10.4: each row of four steps out of these, on devices of one, two and three sectors, held to the plain words behind each of them.
func TestRows(t *testing.T) {
	all := steps(t)
	const long = 4
	many := 1
	for range long {
		many *= len(all)
	}
	for sectors := 1; sectors <= 3; sectors++ {
		for row := range many {
			x := pair{dev.New(sectors), dev.New(sectors)}
			for n, rest := 0, row; n < long; n, rest = n+1, rest/len(all) {
				all[rest%len(all)](x, n)
				x.same(t)
			}
		}
	}
}

// FuzzSuper holds rows of steps, of any length, to the plain words.
func FuzzSuper(f *testing.F) {
	f.Add([]byte{}, byte(2))
	f.Add([]byte{0, 1, 6, 1, 8, 1, 4, 6, 2, 9, 0}, byte(2))
	f.Add([]byte{4, 5, 0, 0, 3, 6, 0, 7}, byte(1))
	f.Fuzz(func(t *testing.T, row []byte, sectors byte) {
		all := steps(t)
		n := int(sectors)%8 + 1
		x := pair{dev.New(n), dev.New(n)}
		for i, c := range row {
			all[int(c)%len(all)](x, i%64+int(c)/len(all))
			x.same(t)
		}
	})
}
