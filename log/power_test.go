package log

import (
	"bytes"
	"encoding/binary"
	"slices"
	"testing"

	"turntable/api"
	"turntable/dev"
	"turntable/super"
	"turntable/table"
)

// P18.2: what was put is read as it was put, and scanned in order, whatever is put, synced and dropped behind it, as long as its extent was not dropped; and read behind a Boot, if it was synced.
func TestThereAndBack(t *testing.T) {
	for n, g := range slices.Concat(small, large) {
		for seed := range uint32(8 - n) {
			d := dev.New(sizeOf(g))
			s := newStory(d, formatted(t, d, g), g)
			for _, c := range stir(seed+90, 150) {
				s.do(c)
				s.whole(t)
			}
			ok(t, s.l.Sync())
			d.Boot(nil, nil)
			s.whole(t)
		}
	}
}

// placed is a body that was put, and where; of a Put that power failed in, that is not known.
type placed struct {
	p api.Place
	b []byte
}

// story is what happened to a log: all bodies, in order, of extents that were not dropped as yet; how many of them were there at the last Sync that was OK; and the Seq of the Drop that power failed in, 0 where there is none.
type story struct {
	d        *dev.Dev
	g        api.Geo
	l        *Log
	all      []placed
	sure     int
	dropping int64
	n        int
}

func newStory(d *dev.Dev, l *Log, g api.Geo) *story { return &story{d: d, l: l, g: g} }

// put puts a body that no other one is like; of an error but ErrDown there is nothing more.
func (s *story) put(n int) api.Errno {
	s.n++
	b := text(s.n, max(0, n))
	p, e := s.l.Put(b)
	if e == api.OK || e == api.ErrDown {
		s.all = append(s.all, placed{p, b})
	}
	return e
}

func (s *story) sync() api.Errno {
	e := s.l.Sync()
	if e == api.OK {
		s.sure = len(s.all)
	}
	return e
}

func (s *story) drop(seq int64) api.Errno {
	e := s.l.Drop(seq)
	switch e {
	case api.OK:
		s.forget(seq)
	case api.ErrDown:
		s.dropping = seq
	}
	return e
}

// forget leaves the bodies of an extent out.
func (s *story) forget(seq int64) {
	var left []placed
	sure := 0
	for i, x := range s.all {
		if x.p.Seq == seq {
			continue
		}
		left = append(left, x)
		if i < s.sure {
			sure++
		}
	}
	s.all, s.sure = left, sure
}

// do does one of the things that a log can, as c tells.
func (s *story) do(c byte) api.Errno {
	switch n := int(c) >> 3; c & 7 {
	case 0, 1:
		return s.sync()
	case 2:
		if order := table.Order(s.l.Table()); len(order) > 0 {
			return s.drop(s.l.Table().Exts[order[n%len(order)]].Seq)
		}
		return s.drop(2)
	case 3:
		if old, is := s.l.Oldest(); is && s.l.Free() == 0 {
			return s.drop(old)
		}
		return s.put(longest(s.g) - n)
	case 4:
		return s.put(60 + n)
	default:
		return s.put(1 + n)
	}
}

// whole holds a log that is not down to all that was put: each is read, and all are scanned in the order of the Seqs.
func (s *story) whole(t *testing.T) {
	t.Helper()
	i := 0
	x := s.l.Table()
	for _, ext := range table.Order(x) {
		parts, n, e := Scan(s.d, s.g, x, ext)
		ok(t, e)
		end := 0
		for _, part := range parts {
			want := placed{api.Place{Seq: x.Exts[ext].Seq, At: part.At, Size: part.Size}, part.B}
			if i == len(s.all) || s.all[i].p != want.p || !bytes.Equal(s.all[i].b, want.b) || part.At != end {
				t.Fatalf("the %d-th of %d is %+v; %+v", i, len(s.all), want, x)
			}
			end = part.At + part.Size
			i++
		}
		if n != end {
			t.Fatalf("%d bytes; want %d", n, end)
		}
	}
	if i != len(s.all) {
		t.Fatalf("%d are scanned of %d; %+v", i, len(s.all), x)
	}
	for _, x := range s.all {
		if b, e := s.l.Read(x.p); e != api.OK || !bytes.Equal(b, x.b) {
			t.Fatalf("Read(%+v) = %x, %d; want %x", x.p, b, e, x.b)
		}
	}
}

// again has the device's table, behind a Boot, be held to P18.3, and the log be resumed as it is then; the open extent is closed where the last one of its frames ends.
func (s *story) again(t *testing.T) {
	t.Helper()
	x, is, e := super.Load(s.d)
	if !is || e != api.OK {
		t.Fatalf("there is no table: %d", e)
	}
	if !slices.ContainsFunc(x.Exts, func(e api.Ext) bool { return e.Seq == s.dropping }) {
		s.forget(s.dropping)
	}
	s.dropping = 0
	var got []placed
	for _, ext := range table.Order(x) {
		parts, n, e := Scan(s.d, s.g, x, ext)
		ok(t, e)
		for _, part := range parts {
			got = append(got, placed{api.Place{Seq: x.Exts[ext].Seq, At: part.At, Size: part.Size}, part.B})
		}
		if ext != x.Open {
			continue
		}
		x.Open, x.Exts[ext].Len = -1, n
		if n == 0 {
			x.Exts[ext] = api.Ext{}
		}
	}
	if len(got) < s.sure || len(got) > len(s.all) {
		t.Fatalf("%d are scanned of %d; want %d at least; %+v", len(got), len(s.all), s.sure, x)
	}
	for i, a := range got {
		want := s.all[i]
		if !bytes.Equal(a.b, want.b) || want.p != (api.Place{}) && a.p != want.p {
			t.Fatalf("the %d-th of %d is %+v; want %+v; %+v", i, len(got), a, want, x)
		}
	}
	s.all, s.sure = got, len(got)
	s.l = resumed(t, s.d, s.g, x)
	s.whole(t)
}

// script is what is done to a log: a Put of so many bytes, a Sync (0), a Drop of the oldest extent (-1), or of the one behind it (-2), and so on.
type script []int

var scripts = []script{
	{1}, {0, 1, 0}, {3, 4, 0, 5}, {56, 56}, {57, 57, 0, 1}, {113, 113, 1}, {113, 113, 113, 0, 113},
	{20, 20, 20, 0, 20, 20, 20, 20, 0, 1}, {1, 0, 1, 0, 1, 0, 1}, {100, 0, 10, 100, 10, -1, 5, 100, 0, 100},
	{60, 60, 60, -2, 60, 60, -1, 3, 60, 0, -1, 60, 60}, {113, 113, 113, 113, -1, 113, -1, 113, -1, 113, 0, -1, 1},
	{113, 0, 50, 50, 113, 1, -2, 113, -1, -1, 113, 113, 5}, {0, -1, 1, -1, 113, -1, 113, -1, 113},
}

// run does a script up to power's failure.
func (s *story) run(t *testing.T, row script) api.Errno {
	t.Helper()
	for _, n := range row {
		var e api.Errno
		switch {
		case n > 0:
			e = s.put(n)
		case n == 0:
			e = s.sync()
		default:
			var seqs []int64
			for _, ext := range table.Order(s.l.Table()) {
				seqs = append(seqs, s.l.Table().Exts[ext].Seq)
			}
			if -n > len(seqs) {
				continue
			}
			e = s.drop(seqs[-n-1])
		}
		if e == api.ErrDown {
			return e
		}
	}
	return api.OK
}

// keeps calls do with each list of n bools.
func keeps(n int, do func(keep []bool)) {
	for bits := range 1 << n {
		keep := make([]bool, n)
		for i := range keep {
			keep[i] = bits>>i&1 == 1
		}
		do(keep)
	}
}

// hurts are such of one of n sectors: bits in its head, its bytes and its sum, one, some, and all of 32, at its edges too.
func hurts(n, at int) [][]api.Hurt {
	out := [][]api.Hurt{nil}
	for which := range n {
		for i, from := range []int{at % 480, 0, 8, 24, 480, 511} {
			bits := []uint32{0xffffffff, 1, 0x80000001, 0x05ec76f1, 1 << 31, 0x82f63b78}[(i+at)%6]
			out = append(out, []api.Hurt{{Which: which, At: from, Bits: bits}})
		}
	}
	return out
}

// P18.3: wherever power fails in a script, whatever of what is loose is kept, and whatever turns within 32 bits of one sector: the device has a table, and what is scanned is the first bodies, those ahead of the last Sync at least. What comes behind that is put to a log that was resumed, and held to it again.
func TestPower(t *testing.T) {
	for _, g := range small[:3] {
		for _, row := range scripts {
			whole := newStory(dev.New(sizeOf(g)), nil, g)
			whole.l = formatted(t, whole.d, g)
			from := whole.d.Done()
			whole.run(t, row)
			for cut := range whole.d.Done() - from + 1 {
				cutScript(t, g, row, cut)
			}
		}
	}
}

// cutScript has power fail behind so many things of a script.
func cutScript(t *testing.T, g api.Geo, row script, cut int) {
	t.Helper()
	started := func() *story {
		d := dev.New(sizeOf(g))
		s := newStory(d, formatted(t, d, g), g)
		d.Cut(cut)
		s.run(t, row)
		return s
	}
	many := len(started().d.Loose())
	keeps(many, func(keep []bool) {
		for _, hurt := range hurts(many, cut*37) {
			if len(hurt) > 0 && !keep[hurt[0].Which] {
				continue // nothing turns
			}
			s := started()
			s.d.Boot(keep, hurt)
			s.again(t)
			ok(t, s.l.Sync())
			s.put(3)
			s.d.Boot(keep, nil)
			s.again(t)
		}
	})
}

// P18.3: a cut Format of a device of nothing leaves a table of nothing, or none.
func TestPowerFormat(t *testing.T) {
	for _, g := range small {
		tables := 0
		for cut := range sizeOf(g) + 4 {
			for _, kept := range []bool{false, true} {
				d := dev.New(sizeOf(g))
				d.Cut(cut)
				if l, e := Format(d, g); l != nil || e != api.ErrDown {
					t.Fatalf("%+v, cut %d: %v, %d", g, cut, l, e)
				}
				d.Boot(slices.Repeat([]bool{kept}, sizeOf(g)), nil)
				x, is, e := super.Load(d)
				if e != api.OK || is && !sameTable(x, api.Table{Gen: 1, Open: -1, Exts: make([]api.Ext, g.Exts)}) {
					t.Fatalf("%+v, cut %d: %+v, %d", g, cut, x, e)
				}
				if is {
					tables++
				}
			}
		}
		if tables != 1 { // the last cut, where the table is kept
			t.Errorf("%+v: %d tables", g, tables)
		}
	}
}

// P18.3, P18.4: power fails again and again, somewhere, and what there is goes on each time; Seqs never come twice.
func TestAgainAndAgain(t *testing.T) {
	for _, g := range slices.Concat(small, large[3:]) {
		for seed := range uint32(10) {
			d := dev.New(sizeOf(g))
			s := newStory(d, formatted(t, d, g), g)
			row := stir(seed+7, 5000)
			was := map[int64]int{} // where each Seq stood
			for len(row) > 200 {
				d.Cut(int(row[0]) / 4)
				i := 1
				for ; i < 100; i++ {
					if s.do(row[i]) == api.ErrDown {
						break
					}
					for ext, e := range s.l.Table().Exts {
						if at, is := was[e.Seq]; is && at != ext && e.Seq != 0 {
							t.Fatalf("%+v: the Seq %d stands in %d, and stood in %d", g, e.Seq, ext, at)
						}
						was[e.Seq] = ext
					}
				}
				row = row[i:]
				var keep []bool
				for _, c := range row[:g.Sectors+1] {
					keep = append(keep, c%4 > 0)
				}
				d.Boot(keep, []api.Hurt{{Which: int(row[1]) % (g.Sectors + 1), At: int(row[2]) * 2, Bits: binary.LittleEndian.Uint32(row[3:]) * uint32(row[7]%2)}})
				s.again(t)
				if s.l.Free() == 0 {
					old, _ := s.l.Oldest()
					ok(t, s.drop(old))
				}
			}
		}
	}
}

// P18.1, R1 and R2: a log that was resumed appends to no extent that was there, however much room that has left: what stands there stays, byte by byte, and is told by the same places.
func TestNeverBehind(t *testing.T) {
	for _, g := range small {
		for many := 1; many < g.Exts; many++ {
			d := dev.New(sizeOf(g))
			s := newStory(d, formatted(t, d, g), g)
			for range many {
				ok(t, s.put(longest(g)-40))
				ok(t, s.put(2))
			}
			ok(t, s.put(1))
			ok(t, s.sync())
			before := stateOf(d)
			s.again(t)
			if p := put(t, s.l, []byte("b")); p != (api.Place{Seq: int64(many + 2), Size: 2}) {
				t.Fatalf("%+v: %+v", g, p)
			}
			for n := range g.Exts - many - 1 {
				if p := put(t, s.l, text(n, longest(g))); p.Seq != int64(many+3+n) || p.At != 0 {
					t.Fatalf("%+v: %+v", g, p)
				}
			}
			if _, e := s.l.Put(text(1, longest(g))); e != api.ErrFull {
				t.Fatalf("%+v: %d", g, e)
			}
			after := stateOf(d)
			for i := 2; i < firstOf(g, many); i++ {
				if !bytes.Equal(after.all[i], before.all[i]) {
					t.Fatalf("%+v: the sector %d has changed", g, i)
				}
			}
			for _, x := range s.all {
				if b, e := s.l.Read(x.p); e != api.OK || !bytes.Equal(b, x.b) {
					t.Fatalf("Read(%+v) = %x, %d", x.p, b, e)
				}
			}
		}
	}
}

// P1: behind ErrDown, of whatever, each call ends, and none panics, on a device that is there again, or not; what it tells is not said.
func TestBehindDown(t *testing.T) {
	for _, g := range small[:2] {
		for seed := range uint32(30) {
			for cut := range 25 {
				d := dev.New(sizeOf(g))
				l := formatted(t, d, g)
				s := newStory(d, l, g)
				d.Cut(cut)
				row := stir(seed, 150)
				for i, c := range row {
					if s.do(c) == api.ErrDown && i%3 > 0 {
						d.Boot([]bool{i%2 == 0, true}, nil)
						d.Cut(int(c) % 9)
					}
					if old, is := l.Oldest(); is {
						l.Drop(old + int64(i%2))
					}
					x := l.Table()
					Scan(d, g, x, i%g.Exts)
					l.Read(api.Place{Seq: x.Exts[i%g.Exts].Seq, At: i % 9, Size: i % 50})
					l.Free()
				}
			}
		}
	}
}
