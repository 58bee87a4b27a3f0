package dev

import (
	"bytes"
	"math"
	"slices"
	"testing"

	"turntable/api"
)

const (
	sectorLen  = 64
	allBits    = 512
	maxSectors = 4096
)

// full is a sector's bytes, all alike.
func full(c byte) []byte { return bytes.Repeat([]byte{c}, sectorLen) }

// mixed is a sector's bytes of all sorts, other ones for each n.
func mixed(n int) []byte {
	b := make([]byte, sectorLen)
	for i := range b {
		b[i] = byte(n*31 + i*7)
	}
	b[62], b[63] = byte(n), byte(n>>8)
	return b
}

// plain is the chapter's words for a device: lists by the sectors' numbers, and no map.
type plain struct {
	kept, written [][]byte // of written nil: it is not loose
	down          bool
	cut           int // below 0: it is not to be cut
	done          int
}

func newPlain(sectors int) *plain {
	p := &plain{written: make([][]byte, sectors), cut: -1}
	for range sectors {
		p.kept = append(p.kept, full(0))
	}
	return p
}

func (p *plain) loose() []int {
	var out []int
	for i, b := range p.written {
		if b != nil {
			out = append(out, i)
		}
	}
	return out
}

func (p *plain) read(i int) ([]byte, api.Errno) {
	if i < 0 || i >= len(p.kept) {
		return nil, 1
	}
	if p.down {
		return nil, 71
	}
	if p.written[i] != nil {
		return p.written[i], 0
	}
	return p.kept[i], 0
}

func (p *plain) thing(do func()) api.Errno {
	if p.down {
		return 71
	}
	if p.cut == 0 {
		p.down = true
		return 71
	}
	if p.cut > 0 {
		p.cut--
	}
	p.done++
	do()
	return 0
}

func (p *plain) write(i int, b []byte) api.Errno {
	if i < 0 || i >= len(p.kept) || len(b) != 64 {
		return 1
	}
	return p.thing(func() { p.written[i] = slices.Clone(b) })
}

func (p *plain) flush() api.Errno {
	return p.thing(func() {
		for i, b := range p.written {
			if b != nil {
				p.kept[i], p.written[i] = b, nil
			}
		}
	})
}

func (p *plain) cutAt(after int) {
	if after >= 0 {
		p.cut = after
	}
}

func (p *plain) boot(keep []bool, hurt []api.Hurt) {
	loose := p.loose()
	is := func(n int) bool { return n < len(keep) && keep[n] }
	for n, i := range loose {
		if is(n) {
			p.kept[i] = p.written[i]
		}
		p.written[i] = nil
	}
	for _, h := range hurt {
		if h.Which >= 0 && h.Which < len(loose) && is(h.Which) && h.At >= 0 && h.At <= 511 {
			p.kept[loose[h.Which]] = turned(p.kept[loose[h.Which]], h.At, h.Bits)
		}
	}
	p.down, p.cut = false, -1
}

// turned is b with bits turned, told one by one from all of its bits in a row.
func turned(b []byte, at int, bits uint32) []byte {
	var row []bool
	for _, c := range b {
		for n := range 8 {
			row = append(row, c>>n&1 == 1)
		}
	}
	for n := range 32 {
		if bits>>n&1 == 1 && at+n < len(row) {
			row[at+n] = !row[at+n]
		}
	}
	out := make([]byte, len(b))
	for i, is := range row {
		if is {
			out[i/8] |= 1 << (i % 8)
		}
	}
	return out
}

// pair is a device, and the plain one to which the same happens.
type pair struct {
	t *testing.T
	d *Dev
	p *plain
}

func newPair(t *testing.T, sectors int) *pair {
	t.Helper()
	d := New(sectors)
	if d == nil {
		t.Fatalf("New(%d) is nil", sectors)
	}
	return &pair{t, d, newPlain(sectors)}
}

func (x *pair) write(i int, b []byte) {
	x.t.Helper()
	if got, want := x.d.Write(i, b), x.p.write(i, b); got != want {
		x.t.Fatalf("Write(%d, %d bytes) = %d; want %d", i, len(b), got, want)
	}
}

func (x *pair) flush() {
	x.t.Helper()
	if got, want := x.d.Flush(), x.p.flush(); got != want {
		x.t.Fatalf("Flush = %d; want %d", got, want)
	}
}

func (x *pair) cut(after int) {
	x.d.Cut(after)
	x.p.cutAt(after)
}

func (x *pair) boot(keep []bool, hurt ...api.Hurt) {
	x.d.Boot(keep, hurt)
	x.p.boot(keep, hurt)
}

// same holds all that may be asked of the device to the plain one.
func (x *pair) same() {
	x.t.Helper()
	n := len(x.p.kept)
	if x.d.Size() != n || x.d.Done() != x.p.done || x.d.Down() != x.p.down || !slices.Equal(x.d.Loose(), x.p.loose()) {
		x.t.Fatalf("Size, Done, Down, Loose = %d, %d, %v, %v; want %d, %d, %v, %v", x.d.Size(), x.d.Done(), x.d.Down(), x.d.Loose(), n, x.p.done, x.p.down, x.p.loose())
	}
	for i := -1; i <= n; i++ {
		got, e := x.d.Read(i)
		want, f := x.p.read(i)
		if e != f || !bytes.Equal(got, want) || e != 0 && got != nil {
			x.t.Fatalf("Read(%d) = %x, %d; want %x, %d", i, got, e, want, f)
		}
	}
}

// has holds what a sector has to what is known by hand.
func (x *pair) has(i int, want []byte) {
	x.t.Helper()
	if got, e := x.d.Read(i); e != api.OK || !bytes.Equal(got, want) {
		x.t.Fatalf("Read(%d) = %x, %d; want %x", i, got, e, want)
	}
}

// wrongPlaces are numbers of which a device of n sectors has none.
func wrongPlaces(n int) []int {
	return []int{math.MinInt, -1 << 32, -n, -1, n, n + 1, 1 << 32, math.MaxInt}
}

// wrongLengths are how many bytes a sector never has.
var wrongLengths = []int{0, 1, 8, 32, 63, 65, 128, 4096}

// keeps calls do with each list of bools of up to most.
func keeps(most int, do func(keep []bool)) {
	for n := range most + 1 {
		for bits := range 1 << n {
			keep := make([]bool, n)
			for i := range keep {
				keep[i] = bits>>i&1 == 1
			}
			do(keep)
		}
	}
}

// P7.1: the chapter's example: behind a Write to 3, and a Boot, 3 has 0 alone.
func TestExample(t *testing.T) {
	x := newPair(t, 4)
	x.write(3, full(7))
	x.boot(nil)
	x.has(3, full(0))
	x.same()
}

// P7.1: the errors' numbers are the chapter's.
func TestNumbers(t *testing.T) {
	d := New(1)
	if e := d.Write(1, full(0)); e != 1 {
		t.Error(e)
	}
	d.Cut(0)
	if e := d.Flush(); e != 71 {
		t.Error(e)
	}
}

// P7.1, G1: how many sectors there may be, and what a new device is.
func TestNew(t *testing.T) {
	for _, n := range []int{math.MinInt, -1 << 32, -4096, -1, 0, 4097, 4098, 8192, 1 << 32, 1<<32 + 1, math.MaxInt} {
		if d := New(n); d != nil {
			t.Errorf("New(%d) is one", n)
		}
	}
	for _, n := range []int{1, 2, 3, 63, 64, 65, 4095, 4096} {
		x := newPair(t, n)
		x.same()
		if x.d.Size() != n || x.d.Done() != 0 || x.d.Down() || len(x.d.Loose()) != 0 {
			t.Errorf("%d: %d, %d, %v, %v", n, x.d.Size(), x.d.Done(), x.d.Down(), x.d.Loose())
		}
		for i := range n {
			x.has(i, full(0))
		}
	}
}

// P7.1, G2: of a sector that there is not, and of bytes that are not 64, there is ErrArg, whatever the device is; no thing is done by that, and nothing changes, power neither.
func TestArg(t *testing.T) {
	for _, n := range []int{1, 5, maxSectors} {
		for state := range 4 {
			x := newPair(t, n)
			x.write(0, mixed(1))
			switch state {
			case 1:
				x.cut(0)
			case 2:
				x.cut(1)
			case 3:
				x.cut(0)
				x.flush()
			}
			for _, i := range wrongPlaces(n) {
				if b, e := x.d.Read(i); b != nil || e != api.ErrArg {
					t.Fatalf("%d sectors: Read(%d) = %v, %d", n, i, b, e)
				}
				if e := x.d.Write(i, full(1)); e != api.ErrArg {
					t.Fatalf("%d sectors: Write(%d) = %d", n, i, e)
				}
				x.d.Write(i, nil)
			}
			for _, size := range wrongLengths {
				if e := x.d.Write(0, make([]byte, size, 4096)); e != api.ErrArg {
					t.Fatalf("Write of %d bytes = %d", size, e)
				}
			}
			if e := x.d.Write(n-1, nil); e != api.ErrArg {
				t.Fatalf("Write of nil = %d", e)
			}
			x.same()
			x.flush()
			x.same()
		}
	}
}

// P7.1, G2: Read has what was written last, loose or not, and is no thing.
func TestRead(t *testing.T) {
	x := newPair(t, 3)
	x.cut(5)
	for n, do := range []func(){
		func() { x.write(1, mixed(1)) },
		func() { x.write(1, mixed(2)) },
		func() { x.flush() },
		func() { x.write(1, mixed(3)) },
		func() { x.write(1, full(0)) },
	} {
		do()
		for range 10 {
			x.same()
		}
		if x.d.Done() != n+1 {
			t.Fatalf("%d things", x.d.Done())
		}
	}
	x.has(1, full(0))
	x.same()
	x.flush()
	if b, e := x.d.Read(1); b != nil || e != api.ErrDown {
		t.Fatalf("Read = %v, %d", b, e)
	}
	x.same()
}

// P7.1, G1: loose are those that were written since the last Flush, or Boot, each once, the least first, in whatever order they were written, and what they have.
func TestLoose(t *testing.T) {
	x := newPair(t, maxSectors)
	for _, i := range []int{4095, 7, 300, 0, 7, 12, 4094, 0, 256, 1} {
		x.write(i, full(0)) // what was there already is written all the same
		x.same()
	}
	want := []int{0, 1, 7, 12, 256, 300, 4094, 4095}
	if got := x.d.Loose(); !slices.Equal(got, want) {
		t.Fatalf("Loose = %v; want %v", got, want)
	}
	x.cut(0)
	x.write(5, full(1))
	if got := x.d.Loose(); !slices.Equal(got, want) {
		t.Fatalf("Loose = %v when it is down; want %v", got, want)
	}
	x.boot(nil)
	if got := x.d.Loose(); len(got) != 0 {
		t.Fatalf("Loose = %v behind a Boot", got)
	}
	x.write(9, full(1))
	x.write(3, full(1))
	if got := x.d.Loose(); !slices.Equal(got, []int{3, 9}) {
		t.Fatalf("Loose = %v", got)
	}
	x.flush()
	if got := x.d.Loose(); len(got) != 0 {
		t.Fatalf("Loose = %v behind a Flush", got)
	}
	for i := range maxSectors { // from the last one on
		x.write(maxSectors-1-i, mixed(i))
	}
	x.same()
}

// P7.1, G2: a Flush has all be kept, and is a thing where nothing is loose, too.
func TestFlush(t *testing.T) {
	x := newPair(t, 4)
	x.flush()
	x.flush()
	if x.d.Done() != 2 {
		t.Fatalf("%d things", x.d.Done())
	}
	for i := range 4 {
		x.write(i, mixed(i))
	}
	x.flush()
	x.same()
	x.write(2, mixed(9))
	x.boot(nil)
	for i := range 4 {
		x.has(i, mixed(i))
	}
	if x.d.Done() != 8 {
		t.Fatalf("%d things", x.d.Done())
	}
	x.same()
}

// P7.2: what was written ahead of a Flush that was OK is there behind each Boot, whatever that one keeps, if it was not written over; what was written over, and not flushed, leaves what was flushed.
func TestKept(t *testing.T) {
	for fails := range 9 { // from 4 on power does not fail
		keeps(4, func(keep []bool) {
			x := newPair(t, 6)
			for i := range 6 {
				x.write(i, mixed(i))
			}
			x.flush()
			x.cut(fails)
			for i := range 4 {
				x.write(5-i, mixed(20+i))
			}
			for range 2 { // the second one has nothing to keep
				loose := x.d.Loose()
				x.boot(keep)
				x.has(0, mixed(0))
				x.has(1, mixed(1))
				for n, i := range loose {
					want := mixed(i)
					if n < len(keep) && keep[n] {
						want = mixed(25 - i)
					}
					x.has(i, want)
				}
				x.same()
			}
		})
	}
}

// P7.2: what a Flush that was cut should have kept is loose still, and may be gone.
func TestFlushCut(t *testing.T) {
	for _, keep := range [][]bool{nil, {false, false}, {true, false}, {false, true}, {true, true}} {
		x := newPair(t, 3)
		x.write(0, mixed(1))
		x.write(2, mixed(2))
		x.cut(0)
		if e := x.d.Flush(); e != api.ErrDown {
			t.Fatalf("Flush = %d", e)
		}
		x.p.flush()
		if got := x.d.Loose(); !slices.Equal(got, []int{0, 2}) {
			t.Fatalf("Loose = %v", got)
		}
		x.boot(keep)
		for n, i := range []int{0, 2} {
			want := full(0)
			if len(keep) > 0 && keep[n] {
				want = mixed(n + 1)
			}
			x.has(i, want)
		}
		x.same()
	}
}

// P7.1, the things: power fails at each one of a row of them: those ahead of it are done, it and all behind it are ErrDown, and change nothing.
func TestCutAtEach(t *testing.T) {
	const many = 12
	for after := range many + 3 {
		x := newPair(t, 4)
		x.write(3, mixed(3))
		x.cut(after)
		for n := range many {
			var e api.Errno
			if n%4 == 3 {
				e = x.d.Flush()
				x.p.flush()
			} else {
				e = x.d.Write(n%3, mixed(n))
				x.p.write(n%3, mixed(n))
			}
			want := api.OK
			if n >= after {
				want = api.ErrDown
			}
			if e != want || x.d.Down() != (n >= after) || x.d.Done() != 1+min(n+1, after) {
				t.Fatalf("cut at %d, thing %d: %d, %v, %d", after, n, e, x.d.Down(), x.d.Done())
			}
			x.same()
		}
		loose := len(x.d.Loose())
		x.boot([]bool{true, false, true})
		if x.d.Done() != 1+min(many, after) || len(x.d.Loose()) != 0 {
			t.Fatalf("cut at %d, %d loose: %d things behind the Boot, %v", after, loose, x.d.Done(), x.d.Loose())
		}
		x.same()
	}
}

// P7.1, G3: below 0 Cut is nothing, and leaves what is to be cut; the last one counts; what is to be cut does not outlive a Boot.
func TestCut(t *testing.T) {
	for _, n := range []int{math.MinInt, -1 << 32, -5, -1} {
		x := newPair(t, 2)
		x.cut(n)
		for range 8 {
			x.write(1, mixed(1))
		}
		x.same()
		x.cut(1)
		x.cut(n)
		x.write(1, mixed(2))
		x.flush()
		if !x.d.Down() {
			t.Fatalf("Cut(%d) has taken back the one ahead of it", n)
		}
		x.cut(n)
		x.same()
	}
	for _, row := range [][]int{{0}, {1}, {3}, {5, 0}, {0, 5}, {0, 2, 1}, {math.MaxInt, 2}, {math.MaxInt}} {
		x := newPair(t, 2)
		for _, n := range row {
			x.cut(n)
		}
		if x.d.Down() {
			t.Fatalf("%v: it is down ahead of a thing", row)
		}
		for range 9 {
			x.write(0, mixed(5))
			x.same()
		}
		if want := min(9, row[len(row)-1]); x.d.Done() != want {
			t.Fatalf("%v: %d things; want %d", row, x.d.Done(), want)
		}
	}
	for _, ahead := range []int{0, 1, 2, 9} { // it is down, or not yet, when Boot comes
		x := newPair(t, 2)
		x.cut(ahead)
		x.write(0, mixed(1))
		x.write(1, mixed(2))
		x.cut(1) // of one that is down, too
		x.boot([]bool{true})
		for range 9 {
			x.write(0, mixed(3))
		}
		if x.d.Down() {
			t.Fatalf("Cut(%d): power fails behind the Boot", ahead)
		}
		x.same()
		x.cut(0)
		x.flush()
		if !x.d.Down() {
			t.Fatal("it is not cut again")
		}
		x.same()
	}
}

// P7.1, G3 and P7.3: of the loose ones each choice is kept; keep may be too short, or too long.
func TestBoot(t *testing.T) {
	for down := range 2 {
		for many := range 4 {
			keeps(6, func(keep []bool) {
				x := newPair(t, 7)
				for _, i := range []int{1, 3, 5, 6} {
					x.write(i, mixed(i))
				}
				x.flush()
				places := []int{5, 0, 3}[:many] // not the way they are sorted
				for _, i := range places {
					x.write(i, mixed(50+i))
					x.write(i, mixed(60+i)) // the last one is what was written
				}
				if down == 1 {
					x.cut(0)
					x.write(2, mixed(70))
				}
				done := x.d.Done()
				x.boot(keep)
				if x.d.Down() || x.d.Done() != done || len(x.d.Loose()) != 0 {
					t.Fatalf("%v, %d, %v", x.d.Down(), x.d.Done(), x.d.Loose())
				}
				for n, i := range slices.Sorted(slices.Values(places)) {
					if n < len(keep) && keep[n] {
						x.has(i, mixed(60+i))
					} else if i == 0 {
						x.has(i, full(0))
					} else {
						x.has(i, mixed(i))
					}
				}
				x.has(1, mixed(1))
				x.has(6, mixed(6))
				x.has(2, full(0))
				x.same()
			})
		}
	}
}

// P7.1, G3: each bit of a sector turns alone, the lowest one of a byte first; bits that stand beyond the end are none.
func TestHurtEachBit(t *testing.T) {
	for at := range allBits {
		for _, h := range []struct {
			bits uint32
			many int // how many of them there are, from At on
		}{{0, 0}, {1, 1}, {3, 2}, {0xffffffff, 32}} {
			for _, b := range [][]byte{full(0), full(255), mixed(3)} {
				x := newPair(t, 2)
				x.write(1, b)
				x.boot([]bool{true}, api.Hurt{Which: 0, At: at, Bits: h.bits})
				want := slices.Clone(b)
				for n := at; n < min(at+h.many, allBits); n++ {
					want[n/8] ^= 1 << (n % 8)
				}
				x.has(1, want)
				x.has(0, full(0))
			}
		}
		for n := range 32 {
			x := newPair(t, 1)
			x.write(0, mixed(4))
			x.boot([]bool{true}, api.Hurt{Which: 0, At: at, Bits: 1 << n})
			want := mixed(4)
			if at+n < allBits {
				want[(at+n)/8] ^= 1 << ((at + n) % 8)
			}
			x.has(0, want)
		}
	}
	x := newPair(t, 1)
	x.write(0, full(0))
	x.boot([]bool{true}, api.Hurt{At: 12, Bits: 0x80000d05})
	want := full(0)
	want[1], want[2], want[5] = 0x50, 0xd0, 0x08
	x.has(0, want)
}

// P7.1, G3: a hurt is nothing, if its At is not 0 to 511, if there was no such loose sector, or if what was written there is gone.
func TestHurtNothing(t *testing.T) {
	places := []int{math.MinInt, -1 << 32, -512, -32, -31, -1, 512, 513, 543, 1 << 32, math.MaxInt - 31, math.MaxInt}
	whichs := []int{math.MinInt, -1 << 32, -1, 3, 4, 5, 1 << 32, math.MaxInt}
	for _, keep := range [][]bool{nil, {}, {false}, {true}, {true, false, true}, {true, true, true}, {true, true, true, true, true}} {
		x := newPair(t, 5)
		for i := range 5 {
			x.write(i, mixed(i))
		}
		x.flush()
		var hurt []api.Hurt
		for _, at := range places {
			for which := range 3 {
				hurt = append(hurt, api.Hurt{Which: which, At: at, Bits: 0xffffffff})
			}
		}
		for _, which := range whichs {
			for _, at := range []int{-1, 0, 5, 511, 512} {
				hurt = append(hurt, api.Hurt{Which: which, At: at, Bits: 1})
			}
		}
		for i := range 3 {
			x.write(i+1, mixed(40+i))
			if i >= len(keep) || !keep[i] {
				hurt = append(hurt, api.Hurt{Which: i, At: 7 * i, Bits: 5})
			}
			hurt = append(hurt, api.Hurt{Which: i, At: i, Bits: 0})
		}
		x.boot(keep, hurt...)
		for i := range 3 {
			want := mixed(i + 1)
			if i < len(keep) && keep[i] {
				want = mixed(40 + i)
			}
			x.has(i+1, want)
		}
		x.same()
		x.boot([]bool{true, true}, api.Hurt{Which: 0, At: 0, Bits: 1}) // there is no loose one now
		x.same()
	}
}

// P7.1, G3: Which counts all loose ones, those of which nothing is kept too; a hurt behind another one turns what that one has left; what has turned stays so.
func TestHurtWhich(t *testing.T) {
	x := newPair(t, 9)
	for _, i := range []int{8, 2, 6, 4} {
		x.write(i, full(0))
	}
	x.boot([]bool{true, false, true, true},
		api.Hurt{Which: 3, At: 0, Bits: 1},
		api.Hurt{Which: 0, At: 8, Bits: 0xff},
		api.Hurt{Which: 1, At: 0, Bits: 1},
		api.Hurt{Which: 2, At: 16, Bits: 3},
		api.Hurt{Which: 2, At: 17, Bits: 3},
		api.Hurt{Which: 3, At: 1, Bits: 1},
		api.Hurt{Which: 3, At: 511, Bits: 0xffffffff})
	want := map[int][]byte{2: full(0), 4: full(0), 6: full(0), 8: full(0)}
	want[2][1] = 0xff
	want[6][2] = 5
	want[8][0], want[8][63] = 3, 0x80
	for range 2 {
		for i := range 9 {
			if b, is := want[i]; is {
				x.has(i, b)
			} else {
				x.has(i, full(0))
			}
		}
		x.same()
		x.boot(nil)
	}
	x.write(2, mixed(1)) // turned back by the same hurt
	x.boot([]bool{true}, api.Hurt{At: 100, Bits: 77}, api.Hurt{At: 100, Bits: 77})
	x.has(2, mixed(1))
	x.write(2, mixed(2)) // what was kept is not hurt with what came over it
	x.boot([]bool{false}, api.Hurt{At: 100, Bits: 77})
	x.has(2, mixed(1))
	x.same()
}

// P7.4: what is written to one sector changes no other one, at once, behind a Flush, or behind a Boot.
func TestInPlace(t *testing.T) {
	const n = 40
	for i := range n {
		for how := range 4 {
			x := newPair(t, n)
			for j := range n {
				x.write(j, mixed(j))
			}
			x.flush()
			x.write(i, mixed(100))
			switch how {
			case 1:
				x.flush()
			case 2:
				x.boot([]bool{true})
			case 3:
				x.boot([]bool{true}, api.Hurt{At: 480, Bits: 0xffffffff}, api.Hurt{At: 500, Bits: 0xffffffff})
			}
			for j := range n {
				if j != i {
					x.has(j, mixed(j))
				}
			}
			x.same()
		}
	}
	x := newPair(t, maxSectors)
	for _, i := range []int{0, 1, 255, 256, 2047, 2048, 4094, 4095} {
		x.write(i, mixed(i))
		x.same()
	}
	x.flush()
	x.same()
}

// P7.1 to P7.4: each row of five steps out of some, held to the plain words behind each of them.
func TestRows(t *testing.T) {
	steps := []func(x *pair, n int){
		func(x *pair, n int) { x.write(0, mixed(n)) },
		func(x *pair, n int) { x.write(1, mixed(10+n)) },
		func(x *pair, n int) { x.write(2, mixed(20)) },
		func(x *pair, n int) { x.flush() },
		func(x *pair, n int) { x.cut(0) },
		func(x *pair, n int) { x.cut(1) },
		func(x *pair, n int) { x.boot(nil) },
		func(x *pair, n int) { x.boot([]bool{true}, api.Hurt{At: n, Bits: 9}, api.Hurt{Which: 1, Bits: 1}) },
		func(x *pair, n int) { x.boot([]bool{false, true}, api.Hurt{Which: 1, At: 509, Bits: 0xff}) },
	}
	const long = 5
	many := 1
	for range long {
		many *= len(steps)
	}
	for row := range many {
		x := newPair(t, 2)
		rest := row
		for n := range long {
			steps[rest%len(steps)](x, n)
			rest /= len(steps)
			x.same()
		}
	}
}

// P7.3: behind a Boot without hurt each sector has what was kept, or what was written there last, wherever power has failed.
func TestOrWhatWas(t *testing.T) {
	for after := range 16 {
		for bits := range 32 {
			x := newPair(t, 5)
			was := make([][]byte, 5)
			last := make([][]byte, 5)
			for i := range 5 {
				was[i] = full(0)
			}
			x.cut(after)
			for n := range 15 {
				i := n * 3 % 5
				if n%6 == 4 {
					if x.d.Flush() == api.OK {
						for i, b := range last {
							if b != nil {
								was[i], last[i] = b, nil
							}
						}
					}
				} else if x.d.Write(i, mixed(n)) == api.OK {
					last[i] = mixed(n)
				}
			}
			keep := make([]bool, 5)
			for i := range keep {
				keep[i] = bits>>i&1 == 1
			}
			x.d.Boot(keep, nil)
			for i := range 5 {
				got, e := x.d.Read(i)
				if e != api.OK || !bytes.Equal(got, was[i]) && (last[i] == nil || !bytes.Equal(got, last[i])) {
					t.Fatalf("cut at %d, keep %v: %d has %x, %d", after, keep, i, got, e)
				}
			}
		}
	}
}

// P3: what is written is not kept as a slice, and stays as it is, its spare room too; so do keep and hurt.
func TestHandedIn(t *testing.T) {
	x := newPair(t, 3)
	whole := append(mixed(1), mixed(2)...)
	b := whole[:sectorLen]
	x.write(1, b)
	x.write(2, b)
	clear(whole)
	x.has(1, mixed(1))
	x.write(2, whole[:sectorLen])
	x.flush()
	copy(whole, full(9))
	x.has(1, mixed(1))
	x.has(2, full(0))

	copy(whole, mixed(1))
	copy(whole[sectorLen:], mixed(2))
	x.write(0, b)
	x.write(1, b)
	wholeKeep := []bool{true, true, false, true}
	wholeHurt := []api.Hurt{{Which: 0, At: 3, Bits: 1}, {Which: 1, At: 4, Bits: 1}, {Which: 1, At: 5, Bits: 1}}
	keep, hurt := wholeKeep[:2], wholeHurt[:1]
	x.boot(keep, hurt...)
	if !bytes.Equal(whole, append(mixed(1), mixed(2)...)) {
		t.Error("what was written has changed")
	}
	if !slices.Equal(wholeKeep, []bool{true, true, false, true}) || !slices.Equal(wholeHurt, []api.Hurt{{Which: 0, At: 3, Bits: 1}, {Which: 1, At: 4, Bits: 1}, {Which: 1, At: 5, Bits: 1}}) {
		t.Error("keep, or hurt, has changed")
	}
	clear(wholeKeep)
	clear(wholeHurt)
	clear(whole)
	x.same()
	x.has(0, turned(mixed(1), 3, 1))
	x.has(1, mixed(1))
}

// P3: what is read, and the list of Loose, are one's own, their spare room too: to change them changes neither the device, nor another answer.
func TestHandedOut(t *testing.T) {
	x := newPair(t, 4)
	for state := range 3 { // never written, loose, kept
		switch state {
		case 1:
			x.write(0, mixed(1))
			x.write(1, mixed(2))
			x.write(3, mixed(3))
		case 2:
			x.flush()
		}
		for i := range 4 {
			a, _ := x.d.Read(i)
			b, _ := x.d.Read(i)
			want := slices.Clone(b)
			if len(a) != sectorLen {
				t.Fatalf("%d bytes", len(a))
			}
			for n := range a[:cap(a)] {
				a[:cap(a)][n] ^= 0xff
			}
			if !bytes.Equal(b, want) {
				t.Fatalf("state %d: another answer has changed", state)
			}
			x.has(i, want)
		}
		one, other := x.d.Loose(), x.d.Loose()
		for n := range one[:cap(one)] {
			one[:cap(one)][n] = 2
		}
		if !slices.Equal(other, x.p.loose()) {
			t.Fatalf("state %d: another Loose has changed: %v", state, other)
		}
		x.same()
	}
	b, _ := x.d.Read(0) // what comes behind does not change an answer
	x.write(1, mixed(8))
	l := x.d.Loose()
	x.write(0, mixed(9))
	x.flush()
	if !bytes.Equal(b, mixed(1)) || !slices.Equal(l, []int{1}) {
		t.Error("an answer has changed with the device")
	}
}

// P3: two devices have nothing of each other.
func TestTwo(t *testing.T) {
	x, y := newPair(t, 3), newPair(t, 3)
	x.write(1, mixed(1))
	y.same()
	x.flush()
	x.cut(0)
	y.write(1, mixed(2))
	x.flush()
	y.same()
	y.boot([]bool{true})
	x.same()
	y.same()
}

// number is what a byte tells, and far out for some.
func number(c byte) int {
	switch c {
	case 255:
		return math.MinInt
	case 254:
		return math.MaxInt
	case 253:
		return 1 << 32
	}
	return int(c%16) - 2
}

// play has what the bytes tell happen, three bytes a step.
func play(x *pair, b []byte) {
	for n := 0; len(b) >= 3; n++ {
		kind, a, c := b[0], b[1], b[2]
		b = b[3:]
		switch kind % 8 {
		case 0, 1, 2:
			x.write(number(a), mixed(int(c)))
		case 3:
			x.write(number(a), make([]byte, c))
		case 4:
			x.flush()
		case 5:
			x.cut(number(a))
		default:
			keep := make([]bool, c%16)
			for i := range keep {
				keep[i] = a>>(i%8)&1 == 1
			}
			var hurt []api.Hurt
			for len(b) >= 4 && len(hurt) < int(kind/64) {
				hurt = append(hurt, api.Hurt{Which: number(b[0]), At: int(b[1])*3 - 5, Bits: uint32(b[2])<<24 | uint32(b[3])})
				b = b[4:]
			}
			x.boot(keep, hurt...)
		}
		x.same()
	}
}

// FuzzDev holds a device to the plain words, whatever happens to it.
func FuzzDev(f *testing.F) {
	f.Add([]byte{})
	f.Add([]byte("\x00\x02\x01\x00\x05\x02\x04\x00\x00\x01\x03\x03\x05\x03\x00\x02\x04\x04\x02\x06\x06\x86\x03\x05\x02\x10\x01\x81\x00\xb0\xff\x80"))
	f.Add([]byte("\x03\x02\x40\x03\x02\x3f\x00\xff\x01\x00\xfe\x02\x05\x02\x00\x00\x01\x01\x03\x0f\x02\x04\x00\x00\x07\x00\x00\x04\x00\x00"))
	f.Add([]byte("\x01\x08\x01\x01\x04\x02\x01\x06\x03\xc6\x05\x03\x03\x01\xff\xff\x04\x02\x0f\x01\x02\xac\x80\x01\x04\x00\x00\x47\x00\x00\x02\x05\xf0\xf0"))
	f.Fuzz(func(t *testing.T, b []byte) { play(newPair(t, 8), b) })
}
