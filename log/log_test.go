package log

import (
	"bytes"
	"encoding/hex"
	"math"
	"slices"
	"strings"
	"testing"

	"turntable/api"
	"turntable/dev"
	"turntable/table"
)

// P18.1, P18.4: the chapter's example: the first Put's place is the extent 0, of the Seq 2.
func TestExample(t *testing.T) {
	for _, g := range slices.Concat(small, large) {
		l := formatted(t, dev.New(sizeOf(g)), g)
		if p := put(t, l, []byte("a")); p != (api.Place{Seq: 2, At: 0, Size: 2}) {
			t.Errorf("%+v", p)
		}
		tells(t, l, 2, 0, append([]api.Ext{{Seq: 2}}, make([]api.Ext, g.Exts-1)...)...)
	}
}

// P18.1: sectors whose bytes are known, the sums too.
func TestKnown(t *testing.T) {
	d := dev.New(10)
	l := formatted(t, d, api.Geo{Exts: 4, Sectors: 2, Max: 64})
	put(t, l, []byte("abc"))
	put(t, l, []byte("de"))
	ok(t, l.Sync())
	put(t, l, bytes.Repeat([]byte{255}, 3))
	put(t, l, bytes.Repeat([]byte{254}, 53)) // one byte more than is left
	zero := strings.Repeat("00", sectorLen)
	for i, want := range []string{
		"1e" + "02000000" + "04" + "01" + "02000000" + "0000" + strings.Repeat("00", 18+29) + "50ab45fe",
		"1e" + "03000000" + "04" + "02" + "02000000" + "0b00" + "03000000" + "0000" + strings.Repeat("00", 12+29) + "22f85e88",
		"09" + "0000" + "03616263" + "026465" + strings.Repeat("00", 50) + "9e570bb4",
		"06" + "0700" + "03ffffff" + strings.Repeat("00", 53) + "116c7518",
		"38" + "0000" + "35" + strings.Repeat("fe", 53) + "000000" + "c7a8209b",
		zero, zero, zero, zero, zero,
	} {
		b, _ := d.Read(i)
		if got := hex.EncodeToString(b); got != want {
			t.Errorf("the sector %d is %s; want %s", i, got, want)
		}
	}
}

// P18.1: the errors' numbers are the chapter's.
func TestNumbers(t *testing.T) {
	g := small[0]
	d := dev.New(10)
	if _, e := Format(dev.New(9), g); e != 1 {
		t.Error(e)
	}
	l := formatted(t, d, g)
	a := put(t, l, []byte("a"))
	for range 3 {
		put(t, l, text(1, 113))
	}
	_, empty := l.Put(nil)
	_, full := l.Put(text(1, 113))
	_, gone := l.Read(api.Place{Seq: 9, Size: 2})
	_, form := l.Read(api.Place{Seq: 2, Size: 1})
	_, _, arg := Scan(d, g, l.Table(), 4)
	x := l.Table()
	x.Exts[0].Len = 3
	_, _, short := Scan(d, g, x, 0)
	open, none := l.Drop(5), l.Drop(6)
	d.Cut(0)
	down := l.Sync()
	_, read := l.Read(a)
	for i, x := range []struct{ got, want api.Errno }{{empty, 1}, {full, 5}, {gone, 3}, {form, 12}, {arg, 1}, {short, 12}, {open, 1}, {none, 3}, {down, 71}, {read, 71}} {
		if x.got != x.want {
			t.Errorf("%d: %d; want %d", i, x.got, x.want)
		}
	}
}

// P18.1, R1: Format, of a device just as long as the Geo asks for, and of longer ones, whatever they have: so many sectors are written, and all is flushed; what stands behind them stays.
func TestFormat(t *testing.T) {
	for _, g := range slices.Concat(small, large) {
		for _, more := range []int{0, 1, 7, 4096 - sizeOf(g)} {
			d := worn(sizeOf(g) + more)
			before := stateOf(d)
			l := formatted(t, d, g)
			after := stateOf(d)
			if after.done != before.done+sizeOf(g)+1+3 || len(after.loose) != 0 {
				t.Fatalf("%+v, %d more: %d things, %v is loose", g, more, after.done-before.done, after.loose)
			}
			for i := range sizeOf(g) {
				before.all[i] = make([]byte, sectorLen)
			}
			blank := api.Table{Gen: 1, Open: -1, Exts: make([]api.Ext, g.Exts)}
			before.all[1] = plainTable(blank)
			if !slices.EqualFunc(after.all, before.all, bytes.Equal) {
				t.Fatalf("%+v, %d more: the device has %x; want %x", g, more, after.all, before.all)
			}
			tells(t, l, 1, -1, blank.Exts...)
			if old, is := l.Oldest(); l.Free() != g.Exts || old != 0 || is {
				t.Fatalf("%+v: %d free, %d, %v", g, l.Free(), old, is)
			}
		}
	}
}

// P18.1, R1: each Geo that is right has a log, and none that is not; of that nothing is done.
func TestGeos(t *testing.T) {
	d := dev.New(514)
	for exts := 2; exts <= 10; exts++ {
		for _, sectors := range []int{0, 1, 2, 3, 4, 30, 63, 64, 65} {
			for _, size := range []int{63, 64, 65, 114, 115, 171, 172, 3591, 3592, 3600, 3601} {
				g := api.Geo{Exts: exts, Sectors: sectors, Max: size}
				done := d.Done()
				l, e := Format(d, g)
				switch {
				case isGeo(g) != (e == api.OK) || isGeo(g) != (l != nil):
					t.Fatalf("Format(%+v) = %v, %d", g, l, e)
				case e != api.OK && (e != api.ErrArg || d.Done() != done):
					t.Fatalf("Format(%+v) = %d, %d things", g, e, d.Done()-done)
				}
			}
		}
	}
}

// P18.1, R1: a Geo that is not right, and a device that is too short, by one sector, or by more, are ErrArg, one that is down too: nothing is done.
func TestFormatArg(t *testing.T) {
	check := func(d *dev.Dev, g api.Geo) {
		t.Helper()
		before := stateOf(d)
		l, e := Format(d, g)
		if l != nil || e != api.ErrArg || !stateOf(d).same(before) {
			t.Fatalf("Format(%d sectors, %+v) = %v, %d", d.Size(), g, l, e)
		}
		for _, n := range []int{4, 8} {
			if l := Resume(d, g, api.Table{Gen: 1, Open: -1, Exts: make([]api.Ext, n)}); l != nil || !stateOf(d).same(before) {
				t.Fatalf("Resume(%d sectors, %+v) = %v", d.Size(), g, l)
			}
		}
	}
	for _, down := range []bool{false, true} {
		d := worn(600)
		if down {
			d.Cut(0)
			d.Flush()
		}
		for _, g := range wrongGeos() {
			check(d, g)
		}
		for _, g := range slices.Concat(small, large) {
			for _, n := range []int{1, 2, sizeOf(g) - g.Sectors, sizeOf(g) - 2, sizeOf(g) - 1} {
				d := worn(n)
				if down {
					d.Cut(0)
					d.Flush()
				}
				check(d, g)
			}
		}
	}
}

// boot has power be there again, on both devices of a pair, of which all that is loose is kept, or every other one, or none.
func (x *pair) boot(which int) {
	x.t.Helper()
	x.d.Cut(0) // all behind this is down
	x.p.d.Cut(0)
	x.d.Flush()
	x.p.d.Flush()
	var keep []bool
	for i := range x.d.Loose() {
		keep = append(keep, []bool{true, i%2 == 0, false}[which])
	}
	for _, d := range []*dev.Dev{x.d, x.p.d} {
		d.Boot(keep, nil)
	}
	if a, b := stateOf(x.d), stateOf(x.p.d); !a.same(b) {
		x.t.Fatalf("the device: %v; want %v", a, b)
	}
}

// P18.1, R1: power fails at each thing of a Format: there is no log, and what was done ahead of that was done in order, and no more. It is made as well behind that.
func TestFormatCut(t *testing.T) {
	for _, g := range small {
		for cut := range sizeOf(g) + 4 {
			for which := range 3 {
				a, b := worn(sizeOf(g)+1), worn(sizeOf(g)+1)
				a.Cut(cut)
				b.Cut(cut)
				l, e := Format(a, g)
				if _, f := plainFormat(b, g); l != nil || e != api.ErrDown || f != e {
					t.Fatalf("%+v, cut %d: %v, %d", g, cut, l, e)
				}
				x := &pair{t: t, d: a, p: &plain{d: b}}
				x.boot(which)
				put(t, formatted(t, a, g), []byte("a"))
				if parts, n, e := Scan(a, g, api.Table{Gen: 2, Open: 0, Exts: append([]api.Ext{{Seq: 2}}, make([]api.Ext, g.Exts-1)...)}, 0); len(parts) != 1 || n != 2 || e != api.OK {
					t.Fatalf("%+v, cut %d: %v, %d, %d", g, cut, parts, n, e)
				}
			}
		}
	}
}

// P18.1, R1: of a device that had a log, Format leaves nothing: what an extent of the same Seq had is not read, though it would stand just behind what is put.
func TestFormatAgain(t *testing.T) {
	for _, g := range small {
		for _, sync := range []bool{false, true} {
			d := dev.New(sizeOf(g))
			l := formatted(t, d, g)
			for range 2 * g.Exts {
				l.Put([]byte("abc"))
				l.Sync()
			}
			l = formatted(t, d, g)
			for i := range 2 {
				put(t, l, []byte("abc"))
				if sync {
					ok(t, l.Sync())
				}
				if parts, n, e := Scan(d, g, l.Table(), 0); len(parts) != i+1 || n != 4*i+4 || e != api.OK {
					t.Fatalf("%+v: %v, %d, %d", g, parts, n, e)
				}
			}
		}
	}
}

// wrongTables are such that are not right, of that many extents, but for the first ones; each has an Open of -1 that may have one.
func wrongTables(exts int) []api.Table {
	of := func(gen int64, change func(t *api.Table)) api.Table {
		t := api.Table{Gen: gen, Open: -1, Exts: make([]api.Ext, exts)}
		for i := range exts - 1 {
			t.Exts[i] = api.Ext{Seq: int64(i + 2), Len: 10 * i}
		}
		change(&t)
		return t
	}
	out := []api.Table{{}, {Gen: 9, Open: -1}, {Gen: 9, Open: -1, Exts: make([]api.Ext, 3)}, {Gen: 9, Open: -1, Exts: make([]api.Ext, 9)}}
	for _, gen := range []int64{math.MinInt64, -1, 0, maxSeq + 1, 1<<32 + 9, math.MaxInt64} {
		out = append(out, of(gen, func(*api.Table) {}))
	}
	for _, e := range []api.Ext{{Seq: -1}, {Seq: maxSeq + 1}, {Seq: 1<<32 + 7}, {Seq: 30, Len: -1}, {Seq: 30, Len: maxLen + 1}, {Len: 1}, {Seq: 3}, {Seq: 3, Len: 10}} {
		out = append(out, of(20, func(t *api.Table) { t.Exts[exts-2] = e }))
	}
	for n := 4; n <= 8; n++ {
		if n != exts {
			out = append(out, api.Table{Gen: 9, Open: -1, Exts: make([]api.Ext, n)}) // right, of another Geo
		}
	}
	return out
}

// P18.1, R1: Resume of tables that are right, of none that is not, or has not as many extents, and of those with an Open of -1 alone; it does nothing to the device, which may be down.
func TestResume(t *testing.T) {
	for _, g := range slices.Concat(small, large) {
		for _, down := range []bool{false, true} {
			d := worn(sizeOf(g))
			if down {
				d.Cut(0)
				d.Flush()
			}
			before := stateOf(d)
			for _, x := range wrongTables(g.Exts) {
				if l := Resume(d, g, x); l != nil {
					t.Fatalf("Resume(%+v, %+v) is one", g, x)
				}
			}
			x := api.Table{Gen: 7, Exts: make([]api.Ext, g.Exts)}
			for i := range g.Exts - 1 {
				x.Exts[i].Seq = int64(7 - i)
				if i > 6 {
					x.Exts[i].Seq = 0
				}
			}
			for open := -1; open <= g.Exts+1; open++ {
				x.Open = open
				if l := Resume(d, g, x); (l != nil) != (open == -1) {
					t.Fatalf("Resume(%+v, %+v): %v", g, x, l)
				}
			}
			for _, open := range []int{math.MinInt, -1<<32 - 1, -257, -3, -2, 1<<32 - 1, math.MaxInt} {
				x.Open = open
				if Resume(d, g, x) != nil {
					t.Fatalf("Resume(%+v, %+v) is one", g, x)
				}
			}
			for _, gen := range []int64{1, 2, 7, maxSeq - 1, maxSeq} {
				for _, seq := range []int64{1, 6, 8, maxSeq} {
					for _, n := range []int{0, 1, roomOf(g), maxLen} {
						x := api.Table{Gen: gen, Open: -1, Exts: make([]api.Ext, g.Exts)}
						x.Exts[g.Exts/2] = api.Ext{Seq: seq, Len: n}
						l := resumed(t, d, g, x)
						old, is := l.Oldest()
						if !sameTable(l.Table(), x) || l.Free() != g.Exts-1 || old != seq || !is {
							t.Fatalf("%+v: %+v, %d free, %d, %v", x, l.Table(), l.Free(), old, is)
						}
					}
				}
			}
			if !stateOf(d).same(before) {
				t.Fatalf("%+v: Resume has changed the device", g)
			}
		}
	}
}

// P18.1, R2: bodies of all lengths: those of no byte, of more than a frame may have, and of those whose frame has no room in an extent are ErrArg, and nothing is done by that; all others are put, and Max is nothing to that.
func TestLengths(t *testing.T) {
	for _, g := range slices.Concat(small, large) {
		lengths := []int{0, 1, 2, 56, 57, 63, 64, 65, 112, 113, 114, 126, 127, 128, 129, 168, 169, 170, 3588, 3589, 3590, 3591, 3599, 3600, 3601, 3602, 3646, 4000, 1 << 14, 1 << 16, 1<<16 + 1, 1<<21 + 1}
		for n := longest(g) - 2; n <= longest(g)+3; n++ {
			lengths = append(lengths, n)
		}
		for _, n := range lengths {
			x := newPair(t, g)
			before := stateOf(x.d)
			e := x.put(n)
			if want := n >= 1 && n <= longest(g); want != (e == api.OK) {
				t.Fatalf("%+v: Put of %d bytes = %d", g, n, e)
			}
			if e != api.OK && (e != api.ErrArg || !stateOf(x.d).same(before)) {
				t.Fatalf("%+v: Put of %d bytes = %d, %d things", g, n, e, x.d.Done()-before.done)
			}
			x.same()
			if g.Sectors > 5 {
				continue
			}
			x.put(5)
			x.put(n) // to another extent, perhaps
			x.same()
		}
	}
	for g, n := range map[api.Geo]int{small[0]: 113, small[1]: 169, large[0]: 3589, large[1]: 3600, large[2]: 3600} {
		if longest(g) != n {
			t.Errorf("%+v: %d", g, longest(g))
		}
	}
}

// P18.1, R2: the log turns where the tape's Left is one byte less than the frame, and not where it is just as long; synced between, or not.
func TestLeft(t *testing.T) {
	for _, g := range small {
		for had := 1; had <= longest(g); had += 1 + had/60 {
			for _, sync := range []bool{false, true} {
				left := roomOf(g) - len(plainFrame(make([]byte, had)))
				if sync {
					left = left / 57 * 57
				}
				for n := max(1, left-3); n <= min(longest(g), left); n++ {
					size := len(plainFrame(make([]byte, n)))
					x := newPair(t, g)
					x.put(had)
					if sync {
						x.sync()
					}
					x.put(n)
					want := api.Place{Seq: 2, At: len(plainFrame(make([]byte, had))), Size: size}
					if size > left {
						want.Seq, want.At = 3, 0
					}
					if got := x.places[1]; got != want {
						t.Fatalf("%+v: %d bytes, synced %v, and %d: %+v; want %+v", g, had, sync, n, got, want)
					}
					x.same()
				}
			}
		}
	}
}

// P18.1, R2: a log is full just where no extent is free: up to then each Put turns, and behind it a body that is no longer than what is left is put still. What is full has changed nothing.
func TestFull(t *testing.T) {
	for _, g := range slices.Concat(small, large[3:]) {
		x := newPair(t, g)
		for i := range g.Exts {
			if x.l.Free() != g.Exts-i {
				t.Fatalf("%+v: %d are free behind %d", g, x.l.Free(), i)
			}
			ok(t, x.put(longest(g)-20))
			x.same()
		}
		for n := 21; n <= longest(g); n += 11 {
			before := stateOf(x.d)
			for range 2 {
				if e := x.put(n); e != api.ErrFull || !stateOf(x.d).same(before) {
					t.Fatalf("%+v: Put of %d bytes = %d, %d things", g, n, e, x.d.Done()-before.done)
				}
			}
			if e := x.put(0); e != api.ErrArg {
				t.Fatalf("%+v: %d", g, e)
			}
			if e := x.put(longest(g) + 1); e != api.ErrArg {
				t.Fatalf("%+v: %d", g, e)
			}
			x.same()
		}
		ok(t, x.put(5))
		ok(t, x.put(3))
		x.same()
		ok(t, x.drop(int64(g.Exts/2+1)))
		ok(t, x.put(longest(g)))
		if e := x.put(longest(g)); e != api.ErrFull {
			t.Fatalf("%+v: %d", g, e)
		}
		x.same()
	}
}

// turnedTo puts a body that takes an extent of its own: the place of that.
func (x *pair) turnedTo() int {
	x.t.Helper()
	ok(x.t, x.put(longest(x.p.g)))
	x.same()
	return x.l.Table().Open
}

// P18.1, P18.4: the extents in a circle: where the oldest goes each time, as they stand; 0 behind the last.
func TestCircle(t *testing.T) {
	for _, g := range small {
		x := newPair(t, g)
		gen := int64(1)
		for n := range 3*g.Exts + 2 {
			if n >= g.Exts {
				old, is := x.l.Oldest()
				if !is {
					t.Fatalf("%+v: there is no oldest", g)
				}
				ok(t, x.drop(old))
				gen++
			}
			gen++
			if at := x.turnedTo(); at != n%g.Exts || x.places[n].Seq != gen {
				t.Fatalf("%+v: the %d-th stands in %d, of the Seq %d; want %d, %d", g, n, at, x.places[n].Seq, n%g.Exts, gen)
			}
		}
	}
}

// P18.1, P18.4: whichever extents are dropped between, the next one is the first free one behind the newest, round the end; Seqs rise, and no two extents have one.
func TestDropped(t *testing.T) {
	for _, g := range small {
		for seed := range uint32(12) {
			x := newPair(t, g)
			newest := int64(1)
			wraps := 0
			for _, c := range stir(seed, 120) {
				if order := table.Order(x.l.Table()); c%2 == 0 && len(order) > 1 {
					ok(t, x.drop(x.l.Table().Exts[order[int(c/2)%(len(order)-1)]].Seq))
				}
				if x.l.Free() == 0 {
					if e := x.put(longest(g)); e != api.ErrFull {
						t.Fatalf("%+v: %d", g, e)
					}
					continue
				}
				from := x.l.Table().Open
				to := x.turnedTo()
				if to < from {
					wraps++
				}
				seq := x.l.Table().Exts[to].Seq
				if seq <= newest || table.Last(x.l.Table()) != seq || !table.Right(x.l.Table()) || x.l.Table().Gen != seq {
					t.Fatalf("%+v: the Seq %d behind %d; %+v", g, seq, newest, x.l.Table())
				}
				newest = seq
			}
			if wraps < 5 {
				t.Errorf("%+v: %d times round", g, wraps)
			}
		}
	}
}

// tablesOf calls do with tables of so many extents, each free, or of one of the Seqs, in every order.
func tablesOf(gen int64, exts int, seqs []int64, do func(x api.Table)) {
	var fill func(x []api.Ext)
	fill = func(x []api.Ext) {
		if len(x) == exts {
			do(api.Table{Gen: gen, Open: -1, Exts: slices.Clone(x)})
			return
		}
		fill(append(x, api.Ext{}))
		for i, seq := range seqs {
			if !slices.ContainsFunc(x, func(e api.Ext) bool { return e.Seq == seq }) {
				fill(append(x, api.Ext{Seq: seq, Len: i}))
			}
		}
	}
	fill(make([]api.Ext, 0, exts))
}

// P18.1, P18.4: the first Put to a log that was resumed goes to the first free extent behind the greatest Seq, in a circle, 0 first, where none is used: whichever are, in whatever order; to none that was there.
func TestResumedCircle(t *testing.T) {
	g := small[0]
	full := 0
	tablesOf(300, 4, []int64{7, 256, 255, 300}, func(was api.Table) {
		x := resumedPair(t, g, was)
		x.same()
		want := plainNext(was)
		if want < 0 {
			full++
			for n, want := range map[int]api.Errno{1: api.ErrFull, 113: api.ErrFull, 0: api.ErrArg, 114: api.ErrArg} {
				if e := x.put(n); e != want {
					t.Fatalf("%+v: Put of %d bytes = %d; want %d", was, n, e, want)
				}
			}
			x.same()
			return
		}
		ok(t, x.put(1))
		now := x.l.Table()
		was.Gen, was.Open, was.Exts[want] = 301, want, api.Ext{Seq: 301}
		if !sameTable(now, was) || x.places[0] != (api.Place{Seq: 301, Size: 2}) {
			t.Fatalf("%+v: %+v", now, was)
		}
		x.same()
		for range 3 {
			x.put(113)
			x.same()
		}
	})
	if full != 24 {
		t.Errorf("%d were full", full)
	}
}

// P18.1, R2 and R3: up to MaxSeq Gens and Seqs rise; one above it is ErrFull, of a Put that turns, and of a Drop; one that need not turn is put still, and nothing has changed.
func TestLastGens(t *testing.T) {
	g := small[1]
	for _, back := range []int64{3, 2, 1, 0} {
		was := api.Table{Gen: maxSeq - back, Open: -1, Exts: make([]api.Ext, 5)}
		was.Exts[2] = api.Ext{Seq: 1 << 30, Len: 0}
		x := resumedPair(t, g, was)
		for n := range back {
			ok(t, x.put(150))
			if p := x.places[n]; p.Seq != maxSeq-back+n+1 {
				t.Fatalf("%+v", p)
			}
			x.same()
		}
		for range 2 {
			before, now := stateOf(x.d), x.l.Table()
			if e := x.put(150); e != api.ErrFull || !sameTable(x.l.Table(), now) || !stateOf(x.d).same(before) {
				t.Fatalf("%d: %+v", e, x.l.Table())
			}
			x.same()
			if back > 0 {
				ok(t, x.put(3))
				x.same()
			}
		}
		now, old := x.l.Table(), int64(1<<30)
		if e := x.l.Drop(old); e != api.ErrFull || !sameTable(x.l.Table(), now) || x.l.Free() != 4-int(back) {
			t.Fatalf("%d: %+v", e, x.l.Table())
		}
		if e := x.l.Drop(old + 1); e != api.ErrNone {
			t.Fatal(e)
		}
		for _, at := range x.places {
			x.read(at)
		}
	}
	x := resumedPair(t, g, api.Table{Gen: maxSeq - 1, Open: -1, Exts: []api.Ext{{Seq: 5}, {Seq: 4}, {}, {}, {}}})
	ok(t, x.drop(5))
	x.same()
	if e := x.l.Drop(4); e != api.ErrFull || x.l.Table().Gen != maxSeq {
		t.Fatalf("%d: %+v", e, x.l.Table())
	}
	if e := x.put(1); e != api.ErrFull {
		t.Fatal(e)
	}
}

// P18.1, R2: of a table that has a Seq above its Gen the next one is its own still; where a Seq is that already, it is super.Save's ErrArg, and nothing has changed.
func TestSeqAhead(t *testing.T) {
	g := small[1]
	x := resumedPair(t, g, api.Table{Gen: 5, Open: -1, Exts: []api.Ext{{}, {Seq: 6}, {Seq: 100}, {}, {}}})
	before := stateOf(x.d)
	for range 2 {
		if e := x.put(1); e != api.ErrArg || !stateOf(x.d).same(before) {
			t.Fatal(e)
		}
		x.same()
	}
	ok(t, x.drop(6)) // the Gen is 6 then
	x.same()
	for _, want := range []api.Place{{Seq: 7, Size: 152}, {Seq: 8, Size: 152}, {Seq: 9, Size: 152}} {
		ok(t, x.put(150))
		if got := x.places[len(x.places)-1]; got != want {
			t.Fatalf("%+v; want %+v", got, want)
		}
		x.same()
	}
	tells(t, x.l, 9, 0, api.Ext{Seq: 9}, api.Ext{}, api.Ext{Seq: 100}, api.Ext{Seq: 7, Len: 152}, api.Ext{Seq: 8, Len: 152})
}

// P18.1, R3: a Sync is one Flush, of all that is loose on the device, whether an extent is open or not; what is put behind it stands in the next sector, and no sector is written again.
func TestSync(t *testing.T) {
	for _, g := range small {
		x := newPair(t, g)
		for _, n := range []int{0, 1, 2, 30, 55, 56, 57} {
			if n > 0 {
				ok(t, x.put(n))
			}
			for range 2 {
				for _, d := range []*dev.Dev{x.d, x.p.d} {
					d.Write(d.Size()-1, text(n, sectorLen))
				}
				before := x.d.Done()
				ok(t, x.sync())
				if x.d.Done() != before+1 || len(x.d.Loose()) != 0 {
					t.Fatalf("%+v, behind %d bytes: %d things, %v", g, n, x.d.Done()-before, x.d.Loose())
				}
				x.same()
			}
		}
		l := resumed(t, x.d, g, api.Table{Gen: 50, Open: -1, Exts: make([]api.Ext, g.Exts)})
		before := x.d.Done()
		ok(t, l.Sync())
		if x.d.Done() != before+1 {
			t.Fatalf("%+v: %d things", g, x.d.Done()-before)
		}
	}
}

// P18.1, R3: of a Seq that is below 1, or no extent's, Drop is ErrNone, of the open one's ErrArg; nothing is done by that, on a device that is down too.
func TestDropErrors(t *testing.T) {
	for _, g := range small {
		x := newPair(t, g)
		check := func(seq int64, want api.Errno) {
			t.Helper()
			before := stateOf(x.d)
			if e := x.drop(seq); e != want || !stateOf(x.d).same(before) {
				t.Fatalf("%+v: Drop(%d) = %d; want %d", g, seq, e, want)
			}
		}
		for round := range 4 {
			for _, seq := range []int64{math.MinInt64, math.MinInt64 + 2, -1 << 32, 2 - 1<<32, -3, -2, -1, 0, 1, 9, 100, 1<<32 + 2, 1<<32 + 3, maxSeq, math.MaxInt64} {
				check(seq, api.ErrNone)
			}
			if x.l.Table().Open >= 0 {
				check(x.l.Table().Exts[x.l.Table().Open].Seq, api.ErrArg)
			}
			switch round {
			case 0, 1:
				ok(t, x.put(longest(g)))
				x.same()
			case 2:
				x.d.Cut(0)
				x.d.Flush()
			}
		}
	}
}

// P18.1, R3: a Drop flushes what is loose first, so that no sector is written again that it has kept; then it is a table's Save. The extent is zero, and all others stay as they are; what it had stays there too, and no Seq tells of it.
func TestDrop(t *testing.T) {
	for _, g := range small {
		for which := range g.Exts - 1 {
			x := newPair(t, g)
			for range g.Exts - 1 {
				ok(t, x.put(longest(g)))
			}
			ok(t, x.put(3))
			at := firstOf(g, g.Exts-1)
			if got := x.d.Loose(); !slices.Contains(got, at) {
				t.Fatalf("%+v: %v is loose", g, got)
			}
			was, before := x.l.Table(), stateOf(x.d)
			ok(t, x.drop(int64(which+2)))
			x.same()
			after := stateOf(x.d)
			if after.done != before.done+4 || len(after.loose) != 0 {
				t.Fatalf("%+v: %d things, %v", g, after.done-before.done, after.loose)
			}
			was.Gen, was.Exts[which] = was.Gen+1, api.Ext{}
			tells(t, x.l, was.Gen, was.Open, was.Exts...)
			before.all[was.Gen%2] = plainTable(was)
			if !slices.EqualFunc(after.all, before.all, bytes.Equal) {
				t.Fatalf("%+v: the device has %x; want %x", g, after.all, before.all)
			}
			if e := x.drop(int64(which + 2)); e != api.ErrNone {
				t.Fatalf("%+v: again: %d", g, e)
			}
			ok(t, x.put(3))
			if got := x.d.Loose(); !slices.Equal(got, []int{at + 1}) {
				t.Fatalf("%+v: %v is loose", g, got)
			}
			x.same()
		}
	}
}

// P18.1, R3: all but the open extent are dropped, in every order; the last one is one's own still, and so are all that come behind.
func TestDropAll(t *testing.T) {
	g := small[0]
	tablesOf(1, 4, []int64{2, 3, 4, 5}, func(order api.Table) {
		x := newPair(t, g)
		for range 4 {
			ok(t, x.put(113))
		}
		for _, e := range order.Exts {
			want := api.OK
			switch e.Seq {
			case 0:
				want = api.ErrNone
			case 5:
				want = api.ErrArg
			}
			if got := x.drop(e.Seq); got != want {
				t.Fatalf("%+v: Drop(%d) = %d; want %d", order, e.Seq, got, want)
			}
			x.same()
		}
		for range 3 {
			x.put(113)
			x.same()
		}
	})
}

// P18.1, P2: on a device that is down each call has the error that its words name first; what it is given wrong, what there is not, and what is full, come ahead of ErrDown.
func TestDown(t *testing.T) {
	g := small[0]
	for _, many := range []int{0, 1, 2, 4} {
		x := newPair(t, g)
		for range many {
			ok(t, x.put(100))
		}
		now := x.l.Table()
		x.d.Cut(0)
		x.d.Flush()
		before := stateOf(x.d)
		put := func(n int, want api.Errno) {
			t.Helper()
			if p, e := x.l.Put(make([]byte, n)); e != want || p != (api.Place{}) {
				t.Fatalf("%d: Put of %d bytes = %+v, %d; want %d", many, n, p, e, want)
			}
		}
		put(0, api.ErrArg)
		put(114, api.ErrArg)
		if many == 4 {
			put(113, api.ErrFull)
			put(13, api.ErrFull)
		} else {
			put(113, api.ErrDown)
		}
		if many == 0 {
			put(1, api.ErrDown)
		}
		for at, want := range map[api.Place]api.Errno{{}: api.ErrNone, {Seq: -1, Size: 4}: api.ErrNone, {Seq: 9, At: -1}: api.ErrNone, {Seq: 2, At: -1, Size: -1}: api.ErrDown, {Seq: 2, Size: 101}: api.ErrDown} {
			if many == 0 {
				want = api.ErrNone
			}
			if b, e := x.l.Read(at); e != want || len(b) != 0 {
				t.Fatalf("%d: Read(%+v) = %x, %d; want %d", many, at, b, e, want)
			}
		}
		for ext := -1; ext <= 4; ext++ {
			want := api.ErrArg
			if ext >= 0 && ext < many {
				want = api.ErrDown
			}
			if e := x.scanDown(now, ext); e != want {
				t.Fatalf("%d: Scan of %d = %d; want %d", many, ext, e, want)
			}
		}
		if many > 1 {
			if e := x.l.Drop(2); e != api.ErrDown {
				t.Fatalf("%d: Drop = %d", many, e)
			}
		}
		if e := x.l.Sync(); e != api.ErrDown {
			t.Fatalf("%d: Sync = %d", many, e)
		}
		if l, e := Format(x.d, g); l != nil || e != api.ErrDown {
			t.Fatalf("%d: Format = %v, %d", many, l, e)
		}
		now.Open = -1
		resumed(t, x.d, g, now)
		if !stateOf(x.d).same(before) {
			t.Fatalf("%d: the device has changed", many)
		}
	}
}

// scanDown is the error of a Scan, beside which there is nothing.
func (x *pair) scanDown(of api.Table, ext int) api.Errno {
	x.t.Helper()
	parts, n, e := Scan(x.d, x.p.g, of, ext)
	if len(parts) != 0 || n != 0 {
		x.t.Fatalf("Scan(%+v, %d) = %v, %d, %d", of, ext, parts, n, e)
	}
	return e
}

// P18.1, R4: each extent of a log, open, closed and free, and each place about them, with each Len from 0 on, and each Open: what stands there of its Seq, the frames of the first Len bytes, if these end there, or of all.
func TestScan(t *testing.T) {
	told := map[api.Errno]int{}
	for _, g := range small {
		x := newPair(t, g)
		for _, n := range []int{1, 30, 60, 1, 9, 100, 5} {
			ok(t, x.put(n))
			if n == 9 {
				x.sync()
			}
		}
		now := x.l.Table()
		for ext := -2; ext <= g.Exts+1; ext++ {
			for open := -1; open < g.Exts; open++ {
				for n := 0; n <= roomOf(g)+2; n++ {
					of := copied(now)
					of.Open = open
					if ext >= 0 && ext < g.Exts && of.Exts[ext].Seq != 0 {
						of.Exts[ext].Len = n
					}
					if open >= 0 {
						of.Exts[open].Len = 0
						if of.Exts[open].Seq == 0 {
							of.Open = -1
						}
					}
					told[x.scan(of, ext)]++
				}
				of := copied(now)
				if ext >= 0 && ext < g.Exts && of.Exts[ext].Seq != 0 {
					for _, seq := range []int64{1, 60, maxSeq} { // nothing stands there of these
						of.Exts[ext] = api.Ext{Seq: seq, Len: int(seq % 2)}
						of.Open = -1
						x.scan(of, ext)
					}
				}
			}
		}
		if !stateOf(x.d).same(stateOf(x.p.d)) {
			t.Fatalf("%+v: Scan has changed the device", g)
		}
	}
	for _, e := range []api.Errno{api.OK, api.ErrArg, api.ErrForm} {
		if told[e] < 100 {
			t.Errorf("the error %d was told %d times", e, told[e])
		}
	}
}

// P18.1, R4: what a Scan is of: frames with where they begin, in order, and how many bytes they are.
func TestScanKnown(t *testing.T) {
	d, g := dev.New(10), small[0]
	l := formatted(t, d, g)
	for _, s := range []string{"abc", "d", "efghi"} {
		put(t, l, []byte(s))
	}
	put(t, l, text(1, 113))
	put(t, l, []byte("j"))
	x := l.Table()
	abc, dee, efg := api.Part{At: 0, Size: 4, B: []byte("abc")}, api.Part{At: 4, Size: 2, B: []byte("d")}, api.Part{At: 6, Size: 6, B: []byte("efghi")}
	for i, c := range []struct {
		ext, size, open int
		parts           []api.Part
		n               int
		e               api.Errno
	}{
		{0, 12, 2, []api.Part{abc, dee, efg}, 12, api.OK}, {0, 6, 2, []api.Part{abc, dee}, 6, api.OK}, {0, 4, 2, []api.Part{abc}, 4, api.OK}, {0, 0, 2, nil, 0, api.OK},
		{0, 11, 2, nil, 0, api.ErrForm}, {0, 5, 2, nil, 0, api.ErrForm}, {0, 1, 2, nil, 0, api.ErrForm}, {0, 13, 2, nil, 0, api.ErrForm}, {0, maxLen, 2, nil, 0, api.ErrForm},
		{0, 0, 0, []api.Part{abc, dee, efg}, 12, api.OK},
		{1, 114, 2, []api.Part{{At: 0, Size: 114, B: text(1, 113)}}, 114, api.OK},
		{2, 0, 2, []api.Part{{At: 0, Size: 2, B: []byte("j")}}, 2, api.OK}, {2, 2, -1, []api.Part{{At: 0, Size: 2, B: []byte("j")}}, 2, api.OK}, {2, 0, -1, nil, 0, api.OK},
		{3, 0, 2, nil, 0, api.ErrArg},
	} {
		of := copied(x)
		of.Open, of.Exts[c.ext].Len = c.open, c.size
		parts, n, e := Scan(d, g, of, c.ext)
		if e != c.e || n != c.n || !sameParts(parts, c.parts) {
			t.Errorf("%d: %v, %d, %d; want %v, %d, %d", i, parts, n, e, c.parts, c.n, c.e)
		}
	}
}

// P18.1, R4: bytes that are no whole frames, put to an extent by hand: of the open one the frames ahead of them are told, and where the last one ends; of one that is closed none, if its Len is not just there.
func TestScanBytes(t *testing.T) {
	g := small[3]
	rows := [][]byte{nil, {0}, {5}, {0, 0, 0}, {1, 7}, {1, 7, 0}, {1, 7, 2}, {1, 7, 2, 8}, {1, 7, 2, 8, 9}, {1, 7, 2, 8, 9, 128}, {1, 7, 128, 0}, {1, 7, 129, 0, 5}, {1, 7, 144, 28, 1}, {1, 7, 145, 28, 1}, {255, 255, 255, 255}, append([]byte{1, 7}, plainFrame(text(1, 128))...), append(plainFrame(text(1, 127)), 1), plainFrame(text(2, 282)), append(plainFrame(text(2, 282)), 1), append(plainFrame(text(3, 281)), 1, 5)}
	for _, row := range rows {
		for ext := range g.Exts {
			a, b := dev.New(sizeOf(g)), dev.New(sizeOf(g))
			for _, d := range []*dev.Dev{a, b} {
				for i := 0; 57*i < len(row); i++ {
					d.Write(firstOf(g, ext)+i, plainSector(6, i, 57*i, row[57*i:min(len(row), 57*i+57)]))
				}
			}
			x := &pair{t: t, d: a, p: &plain{d: b, g: g}}
			of := api.Table{Gen: 9, Open: ext, Exts: make([]api.Ext, g.Exts)}
			of.Exts[ext].Seq = 6
			x.scan(of, ext)
			for n := range len(row) + 3 {
				of.Open, of.Exts[ext].Len = -1, n
				x.scan(of, ext)
			}
		}
	}
}

// P18.1, R4: ErrArg of what Resume would be nil of, but for an Open, and of a place of no extent with a Seq; on a device that is down, too, and ahead of what is read.
func TestScanArg(t *testing.T) {
	for _, g := range slices.Concat(small, large) {
		for _, down := range []bool{false, true} {
			d := dev.New(sizeOf(g))
			l := formatted(t, d, g)
			for range 3 {
				put(t, l, text(1, longest(g)))
			}
			if down {
				d.Cut(0)
				d.Flush()
			}
			arg := func(d *dev.Dev, g api.Geo, x api.Table, ext int) {
				t.Helper()
				if parts, n, e := Scan(d, g, x, ext); len(parts) != 0 || n != 0 || e != api.ErrArg {
					t.Fatalf("Scan(%d sectors, %+v, %+v, %d) = %v, %d, %d", d.Size(), g, x, ext, parts, n, e)
				}
			}
			now := l.Table()
			for _, ext := range []int{math.MinInt, math.MinInt + 1, -1 << 32, 1 - 1<<32, -257, -2, -1, 3, g.Exts - 1, g.Exts, g.Exts + 1, 256, 1 << 32, 1<<32 + 1, math.MaxInt - 1, math.MaxInt} {
				arg(d, g, now, ext)
			}
			for _, x := range wrongTables(g.Exts) {
				for ext := range 9 {
					arg(d, g, x, ext)
				}
			}
			for _, wrong := range wrongGeos() {
				for ext := range 3 {
					arg(d, wrong, now, ext)
				}
			}
			for ext := range 3 {
				arg(dev.New(sizeOf(g)-1), g, now, ext)
				arg(dev.New(2), g, now, ext)
			}
			longer := g
			longer.Sectors++
			if longer.Sectors <= 64 {
				arg(d, longer, now, 0)
			}
		}
	}
}

// P1: of an Open that is no extent's a Scan ends, and does not panic; beside an error there is nothing.
func TestScanOpen(t *testing.T) {
	d, g := dev.New(10), small[0]
	l := formatted(t, d, g)
	put(t, l, text(1, 113))
	put(t, l, text(2, 113))
	now := l.Table()
	for _, open := range []int{math.MinInt, -1<<32 - 1, -3, -2, 0, 2, 3, 4, 5, 255, 1 << 32, math.MaxInt} {
		now.Open = open
		for ext := -1; ext <= 5; ext++ {
			if parts, n, e := Scan(d, g, now, ext); e != api.OK && (len(parts) != 0 || n != 0) || e == api.OK && ext != 0 && ext != 1 {
				t.Fatalf("%d open, %d: %v, %d, %d", open, ext, parts, n, e)
			}
		}
	}
}

// P18.1, R5: each At and Size about what an extent has: one frame's body, and ErrForm of anything else: of none, of two, of a part, of one and some more, of what is not there. A frame within a body is one, too.
func TestRead(t *testing.T) {
	g := small[0]
	x := newPair(t, g)
	bodies := [][]byte{[]byte("abc"), {1, 2, 1, 3, 4}, {9}, {128, 1}, {0}}
	for n := range 2 { // in an extent that is closed, and in the open one; between there is a full one
		for _, b := range bodies {
			p, e := x.l.Put(b)
			ok(t, e)
			x.p.put(b)
			x.places = append(x.places, p)
		}
		if n == 0 {
			x.put(113)
		}
	}
	x.same()
	frames := 0
	for _, seq := range []int64{2, 3, 4} {
		for at := -3; at <= 116; at++ {
			for size := -3; size <= 118; size++ {
				if x.read(api.Place{Seq: seq, At: at, Size: size}) == api.OK {
					frames++
				}
			}
		}
		for _, n := range []int{math.MinInt, math.MinInt + 1, -1 << 32, 1 - 1<<32, 1 << 32, 1<<32 + 4, 1 << 62, math.MaxInt - 4, math.MaxInt - 3, math.MaxInt - 1, math.MaxInt} {
			for _, k := range append([]int{-1, 0, 1, 2, 3, 4, 5, 14, 100, 1<<62 + 4}, n) {
				for _, p := range []api.Place{{Seq: seq, At: n, Size: k}, {Seq: seq, At: k, Size: n}} {
					if b, e := x.l.Read(p); e != api.ErrForm || len(b) != 0 {
						t.Fatalf("Read(%+v) = %x, %d", p, b, e)
					}
				}
			}
		}
	}
	if frames < 2*len(bodies)+3 {
		t.Errorf("%d frames", frames)
	}
	for _, seq := range []int64{math.MinInt64, -1 << 32, 2 - 1<<32, -2, -1, 0, 1, 5, 6, 258, 1<<32 + 2, maxSeq, math.MaxInt64} {
		for _, p := range []api.Place{{Size: 4}, {At: -1, Size: -1}, {At: 4, Size: 6}} {
			p.Seq = seq
			if b, e := x.l.Read(p); e != api.ErrNone || len(b) != 0 {
				t.Fatalf("Read(%+v) = %x, %d", p, b, e)
			}
		}
	}
}

// P18.1, R5: Read asks for no Len: of a log that was resumed, what stands behind that is read still, and what has turned is not.
func TestReadResumed(t *testing.T) {
	d, g := dev.New(17), small[1]
	l := formatted(t, d, g)
	known := map[api.Place][]byte{}
	for n := range 5 {
		b := text(n, 30)
		known[put(t, l, b)] = b
	}
	x := l.Table()
	x.Open = -1
	for _, n := range []int{0, 1, 31, 100, 155, 171, maxLen} {
		x.Exts[0].Len = n
		has(t, resumed(t, d, g, x), known)
	}
	for p, want := range map[api.Place]api.Errno{{Seq: 2, At: 124, Size: 31}: api.OK, {Seq: 2, At: 124, Size: 32}: api.ErrForm, {Seq: 2, At: 155}: api.ErrForm, {Seq: 2, At: 155, Size: 1}: api.ErrForm, {Seq: 2, At: 156}: api.ErrForm} {
		if _, e := resumed(t, d, g, x).Read(p); e != want {
			t.Errorf("Read(%+v) = %d; want %d", p, e, want)
		}
	}
	turned, _ := d.Read(3)
	turned[20] ^= 4
	d.Write(3, turned) // what stands ahead of it is told still
	for p, b := range known {
		got, e := l.Read(p)
		if want := p.At+p.Size <= 57; want != (e == api.OK) || want && !bytes.Equal(got, b) || !want && e != api.ErrForm {
			t.Errorf("Read(%+v) = %x, %d", p, got, e)
		}
	}
}

// P18.1: an extent of the Seq 1, which a table that was resumed may have, or of MaxSeq, is read, scanned and dropped as any other one.
func TestEdgeSeqs(t *testing.T) {
	g := small[0]
	for _, seq := range []int64{1, 2, maxSeq - 1, maxSeq} {
		x := resumedPair(t, g, api.Table{Gen: 8, Open: -1, Exts: []api.Ext{{}, {Seq: seq, Len: 4}, {Seq: 4}, {}}})
		for _, d := range []*dev.Dev{x.d, x.p.d} {
			d.Write(firstOf(g, 1), plainSector(seq, 0, 0, []byte("\x03abc\x01d")))
		}
		x.same()
		has(t, x.l, map[api.Place][]byte{{Seq: seq, Size: 4}: []byte("abc"), {Seq: seq, At: 4, Size: 2}: []byte("d")})
		if old, is := x.l.Oldest(); old != min(seq, 4) || !is {
			t.Fatalf("%d: %d, %v", seq, old, is)
		}
		ok(t, x.drop(seq))
		x.same()
		if e := x.drop(seq); e != api.ErrNone {
			t.Fatalf("%d: %d", seq, e)
		}
		if e := x.read(api.Place{Seq: seq, Size: 4}); e != api.ErrNone {
			t.Fatalf("%d: %d", seq, e)
		}
	}
}

// P18.1, R5: Oldest and Free, of a table of each sort: open ones are told of by neither.
func TestOldest(t *testing.T) {
	g := small[0]
	tablesOf(300, 4, []int64{7, 256, 255, 300}, func(was api.Table) {
		x := resumedPair(t, g, was)
		least, free := int64(0), 0
		for _, e := range was.Exts {
			switch {
			case e.Seq == 0:
				free++
			case least == 0 || e.Seq < least:
				least = e.Seq
			}
		}
		old, is := x.l.Oldest()
		if old != least || is != (free < 4) || x.l.Free() != free {
			t.Fatalf("%+v: %d, %v, %d free", was, old, is, x.l.Free())
		}
		if x.put(1) == api.OK {
			if next, _ := x.l.Oldest(); next != least || x.l.Free() != free-1 {
				t.Fatalf("%+v: %d, %d free", was, next, x.l.Free())
			}
		}
		for is {
			ok(t, x.drop(old))
			x.same()
			next, more := x.l.Oldest()
			if more && next <= old {
				t.Fatalf("%+v: %d behind %d", was, next, old)
			}
			old, is = next, more
		}
	})
}

// do does one of the things that a log can, as c tells.
func (x *pair) do(c byte) api.Errno {
	x.t.Helper()
	switch n := int(c) >> 3; c & 7 {
	case 0:
		return x.sync()
	case 1:
		order := table.Order(x.l.Table())
		if len(order) == 0 {
			return x.drop(int64(n))
		}
		return x.drop(x.l.Table().Exts[order[n%len(order)]].Seq)
	case 2:
		old, _ := x.l.Oldest()
		return x.drop(old)
	case 3:
		return x.put(longest(x.p.g) - n)
	case 4:
		return x.put(50 + n)
	default:
		return x.put(n)
	}
}

// P18.1: long rows of all sorts of things, on each Geo: the same is told as by the plain words, and done to the device.
func TestWalk(t *testing.T) {
	for _, g := range slices.Concat(small, large[3:]) {
		for seed := range uint32(6) {
			x := newPair(t, g)
			for _, c := range stir(seed, 250) {
				x.do(c)
				x.same()
			}
		}
	}
}

// P18.1: where a thing is done that power fails in: what was done ahead of it is what the plain words do, in their order, and no more; whichever of it is kept.
func TestCuts(t *testing.T) {
	for _, g := range small {
		for seed := range uint32(40) {
			for which := range 3 {
				x := newPair(t, g)
				row := stir(seed, 60)
				for _, d := range []*dev.Dev{x.d, x.p.d} {
					d.Cut(int(seed*3) + which)
				}
				for _, c := range row {
					if x.do(c) == api.ErrDown {
						break
					}
				}
				x.boot(which)
			}
		}
	}
}

// P3: what is handed in is not changed, nor its spare room, and not kept.
func TestMemoryIn(t *testing.T) {
	d, g := dev.New(17), small[1]
	l := formatted(t, d, g)
	known := map[api.Place][]byte{}
	for n := 1; n <= 130; n += 3 {
		given := append(text(n, n), bytes.Repeat([]byte{99}, 200)...)
		before := bytes.Clone(given)
		p, e := l.Put(given[:n])
		if !bytes.Equal(given, before) {
			t.Fatalf("a body of %d bytes, or what is behind it, has changed", n)
		}
		clear(given)
		if e == api.ErrFull {
			break
		}
		ok(t, e)
		known[p] = text(n, n)
		has(t, l, known)
	}
	for l.Free() > 0 {
		put(t, l, text(1, longest(g)))
	}
	spare := append(l.Table().Exts, api.Ext{Seq: 77, Len: 7}, api.Ext{Seq: 78}, api.Ext{Seq: 79})
	x := api.Table{Gen: l.Table().Gen, Open: -1, Exts: spare[:5]}
	x.Exts[l.Table().Open] = api.Ext{}
	before := slices.Clone(spare)
	a, b := resumed(t, d, g, x), resumed(t, d, g, x)
	for ext := range 5 {
		Scan(d, g, x, ext)
	}
	put(t, a, []byte("a"))
	ok(t, a.Drop(before[1].Seq))
	if !slices.Equal(spare, before) || x.Gen != l.Table().Gen || x.Open != -1 {
		t.Fatalf("the table, or what is behind it, has changed: %+v; want %+v", spare, before)
	}
	want := b.Table()
	for i := range spare {
		spare[i] = api.Ext{Seq: 500 + int64(i), Len: 5}
	}
	if !sameTable(b.Table(), want) {
		t.Fatalf("the table is kept: %+v; want %+v", b.Table(), want)
	}
	if old, _ := b.Oldest(); old >= 500 || b.Free() != 1 {
		t.Fatalf("%d, %d free", old, b.Free())
	}
}

// P3: what comes out is one's own, its spare room too: to change it changes neither the log, nor the device, nor another answer.
func TestMemoryOut(t *testing.T) {
	d, g := dev.New(17), small[1]
	l := formatted(t, d, g)
	known := map[api.Place][]byte{}
	for n := range 40 {
		b := text(n, 1+n%17)
		known[put(t, l, b)] = b
	}
	now, before := l.Table(), stateOf(d)
	other := l.Table()
	x := l.Table()
	for i := range x.Exts[:cap(x.Exts)] {
		x.Exts[:cap(x.Exts)][i] = api.Ext{Seq: 900, Len: 9}
	}
	if !sameTable(l.Table(), now) || !sameTable(other, now) {
		t.Fatalf("the table has changed: %+v, %+v; want %+v", l.Table(), other, now)
	}
	for p := range known {
		first, _ := l.Read(p)
		second, _ := l.Read(p)
		clear(first[:cap(first)])
		if !bytes.Equal(second, known[p]) {
			t.Fatalf("another answer has changed to %x", second)
		}
	}
	has(t, l, known)
	for _, ext := range table.Order(now) {
		first, _, _ := Scan(d, g, now, ext)
		second, _, _ := Scan(d, g, now, ext)
		for i := range first {
			want := bytes.Clone(second[i].B)
			clear(first[i].B[:cap(first[i].B)])
			first[i].B = want // the others of the same answer are as they were
			if !sameParts(first, second) {
				t.Fatalf("the %d-th shares memory with another one", i)
			}
		}
		clear(first[:cap(first)])
		if third, _, _ := Scan(d, g, now, ext); !sameParts(second, third) {
			t.Fatalf("another answer has changed: %v; %v", second, third)
		}
	}
	if !stateOf(d).same(before) {
		t.Fatal("the device has changed")
	}
	put(t, l, []byte("a"))
	ok(t, l.Drop(2))
	if !sameTable(other, now) {
		t.Fatalf("what was told has changed: %+v; want %+v", other, now)
	}
}

// P3: what happens to a log is told of by no other one, on another device; to ask changes nothing, and the same is told each time.
func TestApart(t *testing.T) {
	g := small[0]
	a, b := newPair(t, g), newPair(t, g)
	for _, c := range stir(3, 200) {
		a.do(c)
		b.same()
		for range 2 {
			a.same()
		}
		if c%3 == 0 {
			b.do(c ^ 85)
			a.same()
		}
	}
}

// FuzzLog holds a log to the plain words, whatever happens to it, and what is there behind a cut, and a Boot, to P18.3.
func FuzzLog(f *testing.F) {
	f.Add([]byte{}, byte(0), uint16(0), uint16(0))
	f.Add([]byte{5, 13, 0, 3, 11, 2, 3, 1, 3, 3, 10, 4, 0}, byte(1), uint16(9), uint16(0x5555))
	f.Add([]byte{3, 3, 3, 3, 2, 3, 2, 3, 0, 7, 8, 9, 10, 11}, byte(2), uint16(40), uint16(0xff07))
	f.Fuzz(func(t *testing.T, row []byte, which byte, cut, keep uint16) {
		g := small[int(which)%len(small)]
		row = row[:min(len(row), 400)]
		x := newPair(t, g)
		d := dev.New(sizeOf(g))
		s := newStory(d, formatted(t, d, g), g)
		d.Cut(int(cut))
		for _, c := range row {
			x.do(c)
			if s.do(c) == api.ErrDown {
				break
			}
		}
		x.same()
		var kept []bool
		for i := range g.Sectors + 1 {
			kept = append(kept, keep>>i&1 == 1)
		}
		d.Boot(kept, []api.Hurt{{Which: int(keep>>6) % 5, At: int(keep >> 7), Bits: uint32(cut) * uint32(keep>>15)}})
		s.again(t)
		for _, c := range row {
			s.do(c)
			s.whole(t)
		}
	})
}
