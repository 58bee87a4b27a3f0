package log

import (
	"bytes"
	"encoding/binary"
	"hash/crc32"
	"math"
	"slices"
	"testing"

	"turntable/api"
	"turntable/dev"
	"turntable/table"
)

const (
	sectorLen = 64
	most      = 57 // how many bytes of a tape a sector has room for
	maxBody   = 3600
	maxSeq    = 2147483648
	maxLen    = 3776
)

// small are the Geos that most tests use: extents of 114 bytes, and of some more.
var small = []api.Geo{{Exts: 4, Sectors: 2, Max: 64}, {Exts: 5, Sectors: 3, Max: 171}, {Exts: 8, Sectors: 2, Max: 100}, {Exts: 4, Sectors: 5, Max: 64}}

// large are Geos at the edges, and between.
var large = []api.Geo{{Exts: 4, Sectors: 63, Max: 3591}, {Exts: 4, Sectors: 64, Max: 64}, {Exts: 8, Sectors: 64, Max: 3600}, {Exts: 7, Sectors: 12, Max: 300}}

// wrongGeos are none that is right.
func wrongGeos() []api.Geo {
	out := []api.Geo{{}, {Exts: 4, Sectors: 1, Max: 57}, {Exts: 4, Sectors: 1, Max: 64}, {Exts: 3, Sectors: 2, Max: 64}, {Exts: 9, Sectors: 2, Max: 64}, {Exts: 4, Sectors: 65, Max: 64}, {Exts: 4, Sectors: 2, Max: 63}, {Exts: 4, Sectors: 2, Max: 115}, {Exts: 4, Sectors: 64, Max: 3601}}
	for _, n := range []int{math.MinInt, -1 << 32, -1, 0, 1<<32 + 4, math.MaxInt} {
		out = append(out, api.Geo{Exts: n, Sectors: 2, Max: 64}, api.Geo{Exts: 4, Sectors: n, Max: 64}, api.Geo{Exts: 4, Sectors: 2, Max: n}, api.Geo{Exts: n, Sectors: n, Max: n})
	}
	return out
}

// sizeOf is how many sectors a right Geo takes, roomOf how many bytes an extent has room for, firstOf where one begins.
func sizeOf(g api.Geo) int { return 2 + g.Exts*g.Sectors }

func roomOf(g api.Geo) int { return most * g.Sectors }

func firstOf(g api.Geo, ext int) int { return 2 + ext*g.Sectors }

// longest is how many bytes the longest body has whose frame an extent has room for.
func longest(g api.Geo) int {
	if roomOf(g) <= 128 {
		return roomOf(g) - 1
	}
	return min(maxBody, roomOf(g)-2)
}

// plainCell is the bytes of a sector of a number and a place, told one behind the other.
func plainCell(seq int64, place int, b []byte) []byte {
	out := append([]byte{byte(len(b))}, b...)
	out = append(out, make([]byte, 60-len(out))...)
	head := append(binary.LittleEndian.AppendUint32(nil, uint32(seq)), byte(place))
	sum := crc32.Checksum(append(head, out...), crc32.MakeTable(crc32.Castagnoli))
	return binary.LittleEndian.AppendUint32(out, sum)
}

// plainSector is the bytes of a tape's sector, plainTable those of a table's.
func plainSector(seq int64, place int, begins int, b []byte) []byte {
	return plainCell(seq, place, append(binary.LittleEndian.AppendUint16(nil, uint16(begins)), b...))
}

func plainTable(t api.Table) []byte {
	b := binary.LittleEndian.AppendUint32(nil, uint32(t.Gen))
	b = append(b, byte(len(t.Exts)), byte(t.Open+1))
	for _, e := range t.Exts {
		b = binary.LittleEndian.AppendUint32(b, uint32(e.Seq))
		b = binary.LittleEndian.AppendUint16(b, uint16(e.Len))
	}
	return plainCell(t.Gen, 255, b)
}

// plainFrame is how many bytes a body has, and then these; the body may be one of no byte, or of too many.
func plainFrame(b []byte) []byte {
	head := []byte{byte(len(b))}
	if len(b) >= 128 {
		head = []byte{byte(len(b)) | 128, byte(len(b) >> 7)}
	}
	return append(head, b...)
}

// plainFrames is the whole frames that b begins with, and where the last one ends: each is made again from what it tells.
func plainFrames(b []byte) ([]api.Part, int) {
	var out []api.Part
	at := 0
	for {
		rest := b[at:]
		n, head := 0, 1
		if len(rest) > 0 {
			n = int(rest[0])
		}
		if len(rest) > 1 && n >= 128 {
			n, head = n&127|int(rest[1])<<7, 2
		}
		if n < 1 || n > maxBody || n > len(rest)-head {
			return out, at
		}
		body := rest[head : head+n]
		f := plainFrame(body)
		if !bytes.HasPrefix(rest, f) {
			return out, at
		}
		out = append(out, api.Part{At: at, Size: len(f), B: bytes.Clone(body)})
		at += len(f)
	}
}

// plainRead is what stands on an extent of a Seq.
func plainRead(d *dev.Dev, g api.Geo, ext int, seq int64) ([]byte, api.Errno) {
	var out []byte
	for i := range g.Sectors {
		s, e := d.Read(firstOf(g, ext) + i)
		if e != 0 {
			return nil, e
		}
		n := int(s[0])
		if n < 3 || n > 59 || !bytes.Equal(s, plainSector(seq, i, len(out), s[3:n+1])) {
			break
		}
		out = append(out, s[3:n+1]...)
	}
	return out, 0
}

// isGeo is geom's words for a Geo that is right.
func isGeo(g api.Geo) bool {
	return g.Exts >= 4 && g.Exts <= 8 && g.Sectors >= 1 && g.Sectors <= 64 && g.Max >= 64 && g.Max <= 57*g.Sectors && g.Max <= maxBody
}

// isTable: may a device of a Geo have a table, its Open aside, which is right here?
func isTable(d *dev.Dev, g api.Geo, t api.Table) bool {
	return isGeo(g) && d.Size() >= sizeOf(g) && table.Right(t) && len(t.Exts) == g.Exts
}

// plainScan is the chapter's words for a Scan.
func plainScan(d *dev.Dev, g api.Geo, t api.Table, ext int) ([]api.Part, int, api.Errno) {
	if !isTable(d, g, t) || ext < 0 || ext >= len(t.Exts) || t.Exts[ext].Seq == 0 {
		return nil, 0, 1
	}
	b, e := plainRead(d, g, ext, t.Exts[ext].Seq)
	if e != 0 {
		return nil, 0, e
	}
	if t.Open == ext {
		parts, end := plainFrames(b)
		return parts, end, 0
	}
	n := t.Exts[ext].Len
	if len(b) < n {
		return nil, 0, 12
	}
	parts, end := plainFrames(b[:n])
	if end < n {
		return nil, 0, 12
	}
	return parts, n, 0
}

// plain is the chapter's words for a log: its table, and what each sector of the open extent has, the current one last.
type plain struct {
	d     *dev.Dev
	g     api.Geo
	t     api.Table
	parts [][]byte
}

func plainFormat(d *dev.Dev, g api.Geo) (*plain, api.Errno) {
	if !isGeo(g) || d.Size() < sizeOf(g) {
		return nil, 1
	}
	for i := range sizeOf(g) {
		if e := d.Write(i, make([]byte, sectorLen)); e != 0 {
			return nil, e
		}
	}
	if e := d.Flush(); e != 0 {
		return nil, e
	}
	p := &plain{d: d, g: g}
	if e := p.lay(api.Table{Gen: 1, Open: -1, Exts: make([]api.Ext, g.Exts)}); e != 0 {
		return nil, e
	}
	return p, 0
}

func plainResume(d *dev.Dev, g api.Geo, t api.Table) *plain {
	if !isTable(d, g, t) || t.Open != -1 {
		return nil
	}
	return &plain{d: d, g: g, t: copied(t)}
}

// copied is a table that has its own extents.
func copied(t api.Table) api.Table {
	t.Exts = slices.Clone(t.Exts)
	return t
}

// lay is how a table is saved.
func (p *plain) lay(t api.Table) api.Errno {
	if t.Gen > maxSeq {
		return 5
	}
	if !table.Right(t) {
		return 1
	}
	if e := p.d.Flush(); e != 0 {
		return e
	}
	if e := p.d.Write(int(t.Gen%2), plainTable(t)); e != 0 {
		return e
	}
	if e := p.d.Flush(); e != 0 {
		return e
	}
	p.t = t
	return 0
}

func (p *plain) len() int { return len(bytes.Join(p.parts, nil)) }

func (p *plain) last() []byte { return p.parts[len(p.parts)-1] }

func (p *plain) left() int { return 57*(p.g.Sectors-len(p.parts)+1) - len(p.last()) }

func (p *plain) append(b []byte) api.Errno {
	x := p.t.Exts[p.t.Open]
	for len(b) > 0 {
		i, had := len(p.parts)-1, p.last()
		begins := p.len() - len(had)
		n := min(len(b), 57-len(had))
		p.parts[i] = slices.Concat(had, b[:n])
		b = b[n:]
		if e := p.d.Write(firstOf(p.g, p.t.Open)+i, plainSector(x.Seq, i, begins, p.parts[i])); e != 0 {
			return e
		}
		if len(p.parts[i]) == 57 {
			p.parts = append(p.parts, nil)
		}
	}
	return 0
}

func (p *plain) put(b []byte) (api.Place, api.Errno) {
	f := plainFrame(b)
	if len(b) < 1 || len(b) > maxBody || len(f) > roomOf(p.g) {
		return api.Place{}, 1
	}
	if p.t.Open < 0 || p.left() < len(f) {
		if e := p.turn(); e != 0 {
			return api.Place{}, e
		}
	}
	at := api.Place{Seq: p.t.Exts[p.t.Open].Seq, At: p.len(), Size: len(f)}
	if e := p.append(f); e != 0 {
		return api.Place{}, e
	}
	return at, 0
}

func (p *plain) turn() api.Errno {
	next := plainNext(p.t)
	if next < 0 {
		return 5
	}
	t := copied(p.t)
	t.Gen++
	if t.Open >= 0 {
		t.Exts[t.Open].Len = p.len()
	}
	t.Exts[next], t.Open = api.Ext{Seq: t.Gen}, next
	if e := p.lay(t); e != 0 {
		return e
	}
	p.parts = [][]byte{nil}
	return 0
}

// plainNext goes from place to place, from the one behind that of the greatest Seq on, once round; below 0: none is free.
func plainNext(t api.Table) int {
	last, greatest := -1, int64(0)
	for i, e := range t.Exts {
		if e.Seq > greatest {
			last, greatest = i, e.Seq
		}
	}
	for n := range t.Exts {
		if i := (last + 1 + n) % len(t.Exts); t.Exts[i].Seq == 0 {
			return i
		}
	}
	return -1
}

func (p *plain) sync() api.Errno {
	if e := p.d.Flush(); e != 0 {
		return e
	}
	if p.t.Open >= 0 && len(p.last()) > 0 {
		p.parts = append(p.parts, nil)
	}
	return 0
}

// place is that of the extent of a Seq; below 0: there is none.
func (p *plain) place(seq int64) int {
	for i, e := range p.t.Exts {
		if seq > 0 && e.Seq == seq {
			return i
		}
	}
	return -1
}

func (p *plain) drop(seq int64) api.Errno {
	i := p.place(seq)
	if i < 0 {
		return 3
	}
	if i == p.t.Open {
		return 1
	}
	if e := p.sync(); e != 0 {
		return e
	}
	t := copied(p.t)
	t.Gen++
	t.Exts[i] = api.Ext{}
	return p.lay(t)
}

func (p *plain) read(at api.Place) ([]byte, api.Errno) {
	i := p.place(at.Seq)
	if i < 0 {
		return nil, 3
	}
	b, e := plainRead(p.d, p.g, i, at.Seq)
	if e != 0 {
		return nil, e
	}
	if at.At < 0 || at.Size < 0 || at.At > len(b) || at.Size > len(b) || at.At+at.Size > len(b) {
		return nil, 12
	}
	parts, end := plainFrames(b[at.At : at.At+at.Size])
	if len(parts) != 1 || end != at.Size {
		return nil, 12
	}
	return parts[0].B, 0
}

func (p *plain) free() int {
	n := 0
	for _, e := range p.t.Exts {
		if e.Seq == 0 {
			n++
		}
	}
	return n
}

func (p *plain) oldest() (int64, bool) {
	least := int64(0)
	for i, e := range p.t.Exts {
		if e.Seq != 0 && i != p.t.Open && (least == 0 || e.Seq < least) {
			least = e.Seq
		}
	}
	return least, least != 0
}

// sameTable: two tables that are told by the same numbers.
func sameTable(a, b api.Table) bool {
	return a.Gen == b.Gen && a.Open == b.Open && slices.Equal(a.Exts, b.Exts)
}

// sameParts: two lists of frames that are told by the same numbers and bytes.
func sameParts(a, b []api.Part) bool {
	return slices.EqualFunc(a, b, func(x, y api.Part) bool {
		return x.At == y.At && x.Size == y.Size && bytes.Equal(x.B, y.B)
	})
}

// text is n bytes of all sorts, other ones for each from.
func text(from, n int) []byte {
	b := make([]byte, n)
	for i := range b {
		b[i] = byte(from*89 + i*31 + i/57)
	}
	return b
}

// stir is n bytes that hang on seed alone.
func stir(seed uint32, n int) []byte {
	out := make([]byte, n)
	for i := range out {
		seed = seed*1664525 + 1013904223
		out[i] = byte(seed >> 24)
	}
	return out
}

// state is all that may be seen of a device but what its Reads tell when it is down.
type state struct {
	done  int
	down  bool
	loose []int
	all   [][]byte
}

func stateOf(d *dev.Dev) state {
	s := state{done: d.Done(), down: d.Down(), loose: d.Loose()}
	for i := range d.Size() {
		b, _ := d.Read(i)
		s.all = append(s.all, b)
	}
	return s
}

func (s state) same(x state) bool {
	return s.done == x.done && s.down == x.down && slices.Equal(s.loose, x.loose) && slices.EqualFunc(s.all, x.all, bytes.Equal)
}

// worn is a device of so many sectors, each of which has something, some of it loose.
func worn(sectors int) *dev.Dev {
	d := dev.New(sectors)
	for i := range sectors {
		d.Write(i, text(i, sectorLen))
	}
	d.Flush()
	for i := 1; i < sectors; i += 3 {
		d.Write(i, text(i+7, sectorLen))
	}
	return d
}

// formatted is a new log, which there is.
func formatted(t *testing.T, d *dev.Dev, g api.Geo) *Log {
	t.Helper()
	l, e := Format(d, g)
	if e != api.OK || l == nil {
		t.Fatalf("Format(%d sectors, %+v) = %v, %d", d.Size(), g, l, e)
	}
	return l
}

// resumed is a log of a table, which there is.
func resumed(t *testing.T, d *dev.Dev, g api.Geo, x api.Table) *Log {
	t.Helper()
	l := Resume(d, g, x)
	if l == nil {
		t.Fatalf("Resume(%d sectors, %+v, %+v) is nil", d.Size(), g, x)
	}
	return l
}

// put has a body be put, which has no error.
func put(t *testing.T, l *Log, b []byte) api.Place {
	t.Helper()
	p, e := l.Put(b)
	if e != api.OK {
		t.Fatalf("Put of %d bytes = %d; %+v", len(b), e, l.Table())
	}
	return p
}

// ok holds an error to none.
func ok(t *testing.T, e api.Errno) {
	t.Helper()
	if e != api.OK {
		t.Fatalf("error %d", e)
	}
}

// tells holds a log's table to what is known.
func tells(t *testing.T, l *Log, gen int64, open int, exts ...api.Ext) {
	t.Helper()
	if x := l.Table(); !sameTable(x, api.Table{Gen: gen, Open: open, Exts: exts}) {
		t.Fatalf("the table is %+v; want the Gen %d, %d open, %v", x, gen, open, exts)
	}
}

// has holds a log's bodies to what is known, by their places.
func has(t *testing.T, l *Log, known map[api.Place][]byte) {
	t.Helper()
	for p, want := range known {
		if b, e := l.Read(p); e != api.OK || !bytes.Equal(b, want) {
			t.Fatalf("Read(%+v) = %x, %d; want %x", p, b, e, want)
		}
	}
}

// pair is a log, and the plain words for it, each on a device of its own; which Puts there were.
type pair struct {
	t      *testing.T
	l      *Log
	p      *plain
	d      *dev.Dev
	places []api.Place
	n      int
}

// newPair is one on devices that have something already, with some sectors more than they need.
func newPair(t *testing.T, g api.Geo) *pair {
	t.Helper()
	a, b := worn(sizeOf(g)+2), worn(sizeOf(g)+2)
	l := formatted(t, a, g)
	p, e := plainFormat(b, g)
	ok(t, e)
	x := &pair{t: t, l: l, p: p, d: a}
	x.same()
	return x
}

// resumedPair is one of a table that is right.
func resumedPair(t *testing.T, g api.Geo, x api.Table) *pair {
	t.Helper()
	a, b := worn(sizeOf(g)), worn(sizeOf(g))
	return &pair{t: t, l: resumed(t, a, g, x), p: plainResume(b, g, x), d: a}
}

// put puts a body of n bytes that no other one has.
func (x *pair) put(n int) api.Errno {
	x.t.Helper()
	x.n++
	b := text(x.n, max(0, n))
	got, e := x.l.Put(b)
	want, f := x.p.put(b)
	if got != want || e != f {
		x.t.Fatalf("Put of %d bytes = %+v, %d; want %+v, %d", n, got, e, want, f)
	}
	if e == api.OK {
		x.places = append(x.places, got)
	}
	return e
}

func (x *pair) sync() api.Errno {
	x.t.Helper()
	e, f := x.l.Sync(), x.p.sync()
	if e != f {
		x.t.Fatalf("Sync = %d; want %d", e, f)
	}
	return e
}

func (x *pair) drop(seq int64) api.Errno {
	x.t.Helper()
	e, f := x.l.Drop(seq), x.p.drop(seq)
	if e != f {
		x.t.Fatalf("Drop(%d) = %d; want %d", seq, e, f)
	}
	return e
}

// read holds what stands somewhere to the plain words.
func (x *pair) read(at api.Place) api.Errno {
	x.t.Helper()
	b, e := x.l.Read(at)
	c, f := x.p.read(at)
	if e != f || !bytes.Equal(b, c) || e != api.OK && len(b) != 0 {
		x.t.Fatalf("Read(%+v) = %x, %d; want %x, %d", at, b, e, c, f)
	}
	return e
}

// scan holds the frames of an extent of a table to the plain words.
func (x *pair) scan(of api.Table, ext int) api.Errno {
	x.t.Helper()
	got, n, e := Scan(x.d, x.p.g, of, ext)
	want, m, f := plainScan(x.p.d, x.p.g, of, ext)
	if e != f || n != m || !sameParts(got, want) || e != api.OK && (len(got) != 0 || n != 0) {
		x.t.Fatalf("Scan(%+v, %d) = %v, %d, %d; want %v, %d, %d", of, ext, got, n, e, want, m, f)
	}
	return e
}

// same holds all that is told of a log to the plain words, what its device has, and did, too.
func (x *pair) same() {
	x.t.Helper()
	if a, b := stateOf(x.d), stateOf(x.p.d); !a.same(b) {
		x.t.Fatalf("the device: %v; want %v", a, b)
	}
	if a, b := x.l.Table(), x.p.t; !sameTable(a, b) {
		x.t.Fatalf("the table: %+v; want %+v", a, b)
	}
	a, is := x.l.Oldest()
	if b, of := x.p.oldest(); a != b || is != of {
		x.t.Fatalf("Oldest = %d, %v; want %d, %v", a, is, b, of)
	}
	if a, b := x.l.Free(), x.p.free(); a != b {
		x.t.Fatalf("Free = %d; want %d", a, b)
	}
	for ext := -1; ext <= len(x.p.t.Exts); ext++ {
		x.scan(x.p.t, ext)
	}
	for _, at := range x.places[max(0, len(x.places)-20):] {
		x.read(at)
	}
}
