package rec

import (
	"bytes"
	"encoding/binary"
	"encoding/hex"
	"iter"
	"math"
	"slices"
	"strings"
	"testing"

	"turntable/api"
	"turntable/frame"
	"turntable/span"
	"turntable/trace"
)

const (
	maxNumber = 1 << 48
	maxBody   = 3600
)

// of is a span of a trace, of an Id, that began then.
func of(trace int64, id int64, start int64) api.Span {
	return api.Span{Trace: trace, Id: id, Parent: id / 2, Start: start, Dur: 3, Service: "s", Name: "n"}
}

// row is n spans of a trace, in order, some of which began together.
func row(trace int64, n int) []api.Span {
	l := make([]api.Span, n)
	for i := range l {
		l[i] = of(trace, int64(1000-i/2*2+i%2), int64(i/2*100))
	}
	return l
}

// larges are n spans in a trace's order that take as many bytes as they may: 101 each.
func larges(n int) []api.Span {
	l := make([]api.Span, n)
	for i := range l {
		l[i] = api.Span{Trace: maxNumber, Id: maxNumber - int64(n-i), Parent: maxNumber, Start: maxNumber / 2, Dur: maxNumber/2 - int64(i), Service: strings.Repeat("\xff", 32), Name: strings.Repeat("\x00", 32)}
	}
	return l
}

// sized are as few spans of the trace 300 as there may be, in order, that take just n bytes, of 10 to 4609.
func sized(n int) []api.Span {
	const least, most = 9, 72 // what one of them takes
	many := max(n-1+most-1, most) / most
	left := n - 1 - many*least
	l := make([]api.Span, many)
	for i := range l {
		service := min(left, 31)
		name := min(left-service, 32)
		left -= service + name
		l[i] = api.Span{Trace: 300, Id: int64(i + 1), Start: int64(i), Service: strings.Repeat("s", service+1), Name: strings.Repeat("n", name)}
	}
	return l
}

// sealed is a record of these spans, of a class and a tick, pinned or not.
func sealed(l []api.Span, class int, tick int64, pin bool) api.Rec {
	return api.Rec{Kind: api.Sealed, Id: l[0].Trace, Class: class, Tick: tick, Pin: pin, Spans: l}
}

// noTraces are spans that are no trace's as they stand, or in no order, of the trace 300 all but for one.
func noTraces() [][]api.Span {
	swapped, back, twice, other, wrong, long := row(300, 4), row(300, 3), row(300, 3), row(300, 3), row(300, 3), row(300, 2)
	swapped[1], swapped[2] = swapped[2], swapped[1]
	slices.Reverse(back)
	twice[2] = twice[1]
	other[1].Trace = 301
	wrong[2].Service = ""
	long[1].Name = strings.Repeat("n", 33)
	return [][]api.Span{nil, {}, swapped, back, twice, other, wrong, long, {of(300, 1, 0), of(300, 1, 5)}, {{}}, {{Trace: 300}}, make([]api.Span, 3), row(300, 65), row(300, 66), row(300, 1<<16+1)}
}

// ids, ticks and classes are the edges of each, those beside them, and such as have the same last bits.
func ids() []int64 {
	return []int64{1, 2, 127, 128, 300, 301, 16383, 16384, 1<<32 + 1, maxNumber - 1, maxNumber, 0, -1, -300, maxNumber + 1, maxNumber + 300, 1<<49 + 300, math.MaxInt64, math.MinInt64, math.MinInt64 + 300}
}

func ticks() []int64 {
	return []int64{0, 1, 127, 128, 300, 1<<42 - 1, 1 << 42, maxNumber - 1, maxNumber, -1, -128, maxNumber + 1, 1<<49 + 1, math.MaxInt64, math.MinInt64}
}

func classes() []int {
	return []int{0, 1, 3, 6, 7, -1, 8, 9, 15, 16, 255, 256, 263, -8, -249, 1 << 32, math.MaxInt, math.MinInt}
}

func kinds() []int {
	return []int{1, 2, 3, 4, 5, 0, 6, 7, -1, 9, 13, 255, 256, 257, 260, -255, -251, 1<<32 + 1, 1<<32 + 5, math.MaxInt, math.MinInt, math.MinInt + 1}
}

// right are records of all kinds that are right.
func right() []api.Rec {
	var out []api.Rec
	for _, id := range ids() {
		if id < 1 || id > maxNumber {
			continue
		}
		for _, class := range []int{0, 1, 6, 7} {
			out = append(out, api.Rec{Kind: api.Classed, Id: id, Class: class})
		}
		out = append(out, api.Rec{Kind: api.Pinned, Id: id}, api.Rec{Kind: api.Loosed, Id: id}, api.Rec{Kind: api.Gone, Id: id}, sealed(row(id, 1), 0, 0, false), sealed(row(id, 2), 7, id, true))
	}
	for _, tick := range ticks() {
		if tick < 0 || tick > maxNumber {
			continue
		}
		for class := range 8 {
			out = append(out, sealed(row(300, class+1), class, tick, tick%2 == 0), sealed(larges(2), class, tick, tick%2 != 0))
		}
	}
	for _, n := range []int{3, 31, 63, 64} {
		out = append(out, sealed(row(5, n), 3, 300, true))
	}
	return append(out, sealed(larges(35), 7, maxNumber, true), sealed(sized(3597), 0, 0, false), sealed(sized(3591), 7, maxNumber, true))
}

// number is the bytes of a number that is not below 0.
func number(n int64) []byte { return binary.AppendUvarint(nil, uint64(n)) }

// raw is the bytes of a record by the chapter's words, whether it is right or not.
func raw(r api.Rec) []byte {
	kind := []byte{byte(r.Kind)}
	switch {
	case r.Kind == 1 && r.Pin:
		return slices.Concat(kind, []byte{byte(8 + r.Class)}, number(r.Tick), trace.Put(r.Spans))
	case r.Kind == 1:
		return slices.Concat(kind, []byte{byte(r.Class)}, number(r.Tick), trace.Put(r.Spans))
	case r.Kind == 4:
		return slices.Concat(kind, number(r.Id), []byte{byte(r.Class)})
	}
	return slices.Concat(kind, number(r.Id))
}

// loose is the bytes of spans, whether they are a trace's or not, behind those of a number.
func loose(n int64, l ...api.Span) []byte {
	b := number(n)
	for _, s := range l {
		b = append(b, span.Put(nil, s)...)
	}
	return b
}

// plainRight is the chapter's words for a record that is right.
func plainRight(r api.Rec) bool {
	if r.Id < 1 || r.Id > maxNumber {
		return false
	}
	switch r.Kind {
	case 1:
		return r.Class >= 0 && r.Class <= 7 && r.Tick >= 0 && r.Tick <= maxNumber && trace.Right(r.Spans) && r.Spans[0].Trace == r.Id && len(raw(r)) <= maxBody
	case 2, 3, 5:
		return r.Class == 0 && r.Tick == 0 && !r.Pin && len(r.Spans) == 0
	case 4:
		return r.Class >= 0 && r.Class <= 7 && r.Tick == 0 && !r.Pin && len(r.Spans) == 0
	}
	return false
}

// guesses tells records whose bytes b may be: of a number of each length, and of each class.
func guesses(b []byte) iter.Seq[api.Rec] {
	return func(yield func(api.Rec) bool) {
		kind, from := int(b[0]), 1
		if kind == 1 {
			from = 2
		}
		n := int64(0)
		for i := 0; i < 7 && from+i < len(b); i++ {
			n |= int64(b[from+i]&0x7f) << (7 * i)
			var l []api.Span
			if kind == 1 {
				l, _ = trace.Get(b[from+i+1:])
			}
			for class := range 8 {
				if len(l) > 0 && (!yield(sealed(l, class, n, false)) || !yield(sealed(l, class, n, true))) {
					return
				}
				if kind != 1 && !yield(api.Rec{Kind: kind, Id: n, Class: class}) {
					return
				}
			}
		}
	}
}

// plainGet looks for the right record whose bytes b is.
func plainGet(b []byte) (api.Rec, api.Errno) {
	if len(b) == 0 {
		return api.Rec{}, api.ErrShort
	}
	for r := range guesses(b) {
		if plainRight(r) && bytes.Equal(raw(r), b) {
			return r, api.OK
		}
	}
	return api.Rec{}, api.ErrForm
}

func same(a, b api.Rec) bool {
	return a.Kind == b.Kind && a.Id == b.Id && a.Class == b.Class && a.Tick == b.Tick && a.Pin == b.Pin && slices.Equal(a.Spans, b.Spans)
}

// brief is at most 60 of these bytes, to be told.
func brief(b []byte) string { return hex.EncodeToString(b[:min(len(b), 60)]) }

func checkGet(t *testing.T, b []byte, r api.Rec, e api.Errno) {
	t.Helper()
	if gr, ge := Get(b); !same(gr, r) || ge != e {
		t.Fatalf("Get(%s, %d bytes) = %.300v, %d; want %.300v, %d", brief(b), len(b), gr, int(ge), r, int(e))
	}
}

// checkForm: these bytes are no record's.
func checkForm(t *testing.T, b []byte) {
	t.Helper()
	checkGet(t, b, api.Rec{}, api.ErrForm)
}

// checkPlain holds Get to the plain words, and what is got to its bytes.
func checkPlain(t *testing.T, b []byte) {
	t.Helper()
	r, e := plainGet(b)
	got, ge := Get(b)
	if !same(got, r) || ge != e {
		t.Fatalf("Get(%s, %d bytes) = %.300v, %d; want %.300v, %d", brief(b), len(b), got, int(ge), r, int(e))
	}
	if ge == api.OK && (!Right(got) || !bytes.Equal(Put(got), b)) {
		t.Fatalf("Get(%s) = %.300v, but its bytes are %s", brief(b), got, brief(Put(got)))
	}
}

// checkRight: a record is right, has these bytes, and is got of them.
func checkRight(t *testing.T, r api.Rec, b []byte) {
	t.Helper()
	if got := Put(r); !Right(r) || !bytes.Equal(got, b) {
		t.Fatalf("%.300v: %v, %s, %d bytes; want %s, %d bytes", r, Right(r), brief(got), len(got), brief(b), len(b))
	}
	checkGet(t, b, r, api.OK)
}

// checkWrong: a record is not right, and has no bytes.
func checkWrong(t *testing.T, r api.Rec) {
	t.Helper()
	if got := Put(r); Right(r) || len(got) != 0 {
		t.Fatalf("%.300v: %v, %s", r, Right(r), brief(got))
	}
}

// check holds Right and Put to the plain words, and Get where the record has bytes.
func check(t *testing.T, r api.Rec) {
	t.Helper()
	if plainRight(r) {
		checkRight(t, r, raw(r))
	} else {
		checkWrong(t, r)
	}
}

// P13.1: the chapter's example, and records whose bytes are known by hand.
func TestKnown(t *testing.T) {
	one := []api.Span{{Trace: 5, Id: 6, Parent: 7, Start: 300, Dur: 2, Service: "a", Name: "bc"}}
	two := []api.Span{{Trace: maxNumber, Id: 2, Service: "x"}, {Trace: maxNumber, Id: 1, Start: 1, Service: "y"}}
	last := "80808080808040"
	for _, x := range []struct {
		r api.Rec
		b string
	}{
		{api.Rec{Kind: 5, Id: 300}, "05ac02"}, // Gone of 300
		{api.Rec{Kind: 2, Id: 1}, "0201"},
		{api.Rec{Kind: 3, Id: 127}, "037f"},
		{api.Rec{Kind: 2, Id: 128}, "028001"},
		{api.Rec{Kind: 3, Id: maxNumber}, "03" + last},
		{api.Rec{Kind: 5, Id: maxNumber - 1}, "05ffffffffffff3f"},
		{api.Rec{Kind: 4, Id: 1}, "040100"},
		{api.Rec{Kind: 4, Id: 300, Class: 7}, "04ac0207"},
		{api.Rec{Kind: 4, Id: maxNumber, Class: 1}, "04" + last + "01"},
		{api.Rec{Kind: 1, Id: 5, Spans: one}, "010000" + "01050607ac020201610262" + "63"},
		{api.Rec{Kind: 1, Id: 5, Pin: true, Spans: one}, "010800" + "01050607ac020201610262" + "63"},
		{api.Rec{Kind: 1, Id: 5, Class: 7, Tick: 128, Spans: one}, "01078001" + "01050607ac020201610262" + "63"},
		{api.Rec{Kind: 1, Id: 5, Class: 3, Tick: maxNumber, Pin: true, Spans: one}, "010b" + last + "01050607ac020201610262" + "63"},
		{api.Rec{Kind: 1, Id: maxNumber, Class: 7, Tick: 1, Pin: true, Spans: two}, "010f0102" + last + "02000000017800" + last + "01000100017900"},
	} {
		b, err := hex.DecodeString(x.b)
		if err != nil {
			t.Fatal(err)
		}
		checkRight(t, x.r, b)
	}
	if Cost(one) != 16+12 || Cost(two) != 16+29 {
		t.Error(Cost(one), Cost(two))
	}
}

// P13.1, M1: a record of each kind with each one thing that it may not have is not right, and right without it.
func TestOneWrong(t *testing.T) {
	l := row(300, 3)
	for _, whole := range []api.Rec{sealed(l, 3, 5, false), sealed(l, 0, 0, true), {Kind: 2, Id: 300}, {Kind: 3, Id: 300}, {Kind: 4, Id: 300}, {Kind: 4, Id: 300, Class: 7}, {Kind: 5, Id: 300}} {
		if !Right(whole) {
			t.Fatalf("not right: %v", whole)
		}
		wrong := func(what string, change func(r *api.Rec)) {
			r := whole
			change(&r)
			if Right(r) || len(Put(r)) != 0 {
				t.Errorf("%s in %v is right", what, whole)
			}
		}
		for _, n := range []int{math.MinInt, -1, 0, 6, 7, 8, 256 + whole.Kind, 1<<32 + whole.Kind, math.MaxInt} {
			wrong("a kind", func(r *api.Rec) { r.Kind = n })
		}
		for _, n := range []int64{math.MinInt64, -300, -1, 0, maxNumber + 1, maxNumber + 300, math.MaxInt64} {
			wrong("an id", func(r *api.Rec) { r.Id = n })
		}
		for _, n := range []int{math.MinInt, -8, -1, 8, 9, 15, 16, 256, 1 << 32, math.MaxInt} {
			wrong("a class", func(r *api.Rec) { r.Class = n })
		}
		for _, n := range []int64{math.MinInt64, -1, maxNumber + 1, math.MaxInt64} {
			wrong("a tick", func(r *api.Rec) { r.Tick = n })
		}
		if whole.Kind == api.Sealed {
			wrong("another id", func(r *api.Rec) { r.Id = 301 })
			wrong("one id less", func(r *api.Rec) { r.Id = 299 })
			for _, x := range noTraces() {
				wrong("no trace", func(r *api.Rec) { r.Spans = x })
			}
			wrong("another trace", func(r *api.Rec) { r.Spans = row(301, 3) })
			continue
		}
		for _, n := range []int64{1, 127, 300, maxNumber} {
			wrong("a tick", func(r *api.Rec) { r.Tick = n })
		}
		wrong("a pin", func(r *api.Rec) { r.Pin = true })
		for _, x := range [][]api.Span{l, row(300, 1), row(301, 1), {{}}, noTraces()[2], row(300, 65)} {
			wrong("spans", func(r *api.Rec) { r.Spans = x })
		}
		if whole.Kind != api.Classed {
			wrong("a class", func(r *api.Rec) { r.Class = 1 })
			wrong("a class", func(r *api.Rec) { r.Class = 7 })
		}
	}
}

// P13.1, M1: a list of no span is none.
func TestEmptySpans(t *testing.T) {
	for kind := 2; kind <= 5; kind++ {
		checkRight(t, api.Rec{Kind: kind, Id: 300, Spans: []api.Span{}}, raw(api.Rec{Kind: kind, Id: 300}))
		checkRight(t, api.Rec{Kind: kind, Id: 300, Spans: make([]api.Span, 0, 9)}, raw(api.Rec{Kind: kind, Id: 300}))
	}
	checkWrong(t, api.Rec{Kind: 1, Id: 300, Spans: []api.Span{}})
	checkWrong(t, api.Rec{})
}

// P13.1, M1: kinds with Ids, Classes, Ticks, Pins and spans, right ones and wrong ones, against the plain words.
func TestAllParts(t *testing.T) {
	found := 0
	lists := append(noTraces()[:9], row(300, 1), row(300, 2), row(301, 2), row(maxNumber, 1), sized(3590), sized(3597), sized(3598), larges(1), larges(36))
	for _, kind := range kinds() {
		for _, id := range ids() {
			for _, l := range lists {
				for _, pin := range []bool{false, true} {
					for _, class := range classes() {
						// Of so many, each tick with some classes, and each class with some ticks.
						for i, tick := range ticks() {
							if class != 0 && class != 7 && i > 1 {
								break
							}
							r := api.Rec{Kind: kind, Id: id, Class: class, Tick: tick, Pin: pin, Spans: l}
							is := plainRight(r)
							if is {
								found++
							}
							if Right(r) != is {
								t.Fatalf("%.300v: %v", r, !is)
							}
							if is || class <= 0 && i == 0 {
								check(t, r)
							}
						}
					}
				}
			}
		}
	}
	if found < 300 {
		t.Errorf("%d right ones alone", found)
	}
}

// P13.2: right records have the bytes of the words, and are got of them.
func TestThereAndBack(t *testing.T) {
	of := map[string]api.Rec{}
	for _, r := range right() {
		if !plainRight(r) {
			t.Fatalf("not right: %.300v", r)
		}
		b := raw(r)
		checkRight(t, r, b)
		checkPlain(t, b)
		if x, is := of[string(b)]; is && !same(x, r) {
			t.Fatalf("two of the bytes %s", brief(b))
		}
		of[string(b)] = r
	}
	if len(of) < 200 {
		t.Errorf("%d records alone", len(of))
	}
}

// P13.2: each number of one byte or two, and each power of two, as an Id and as a Tick.
func TestNumbers(t *testing.T) {
	var all []int64
	for n := range int64(20000) {
		all = append(all, n)
	}
	for bit := range 49 {
		all = append(all, 1<<bit-1, 1<<bit, 1<<bit+1)
	}
	for _, n := range all {
		for kind := 2; kind <= 5; kind++ {
			check(t, api.Rec{Kind: kind, Id: n})
		}
		check(t, api.Rec{Kind: 4, Id: n, Class: int(n % 9)})
		check(t, sealed(row(300, 1), int(n%9), n, n%2 == 0))
		check(t, sealed(row(n, 1), int(n%8), n, n%2 == 0))
	}
}

// P13.1, M1: a trace whose record has just as many bytes as a body may have is right; of one byte more, wherever it comes from, it is not.
func TestLargest(t *testing.T) {
	for n := 3560; n <= 4609; n++ {
		if n > 3640 && n%37 > 0 {
			continue
		}
		l := sized(n)
		if len(trace.Put(l)) != n {
			t.Fatalf("%d bytes instead of %d", len(trace.Put(l)), n)
		}
		for width, tick := range []int64{0, 127, 128, 1<<14 - 1, 1 << 14, 1<<21 - 1, 1 << 21, 1 << 28, 1 << 35, 1<<42 - 1, 1 << 42, maxNumber} {
			r := sealed(l, width%8, tick, width%2 == 0)
			b := raw(r)
			if len(b) <= 3600 {
				checkRight(t, r, b)
				continue
			}
			checkWrong(t, r)
			checkForm(t, b)
		}
	}
	at := sealed(sized(3597), 0, 127, true)
	if !Right(at) || len(Put(at)) != maxBody {
		t.Errorf("of %d bytes it is not right", maxBody)
	}
	at.Tick = 128
	checkWrong(t, at)
	checkWrong(t, sealed(sized(3598), 0, 0, false))
	for _, n := range []int{35, 36, 40, 41, 64} { // of 3536 bytes, and of 3637 on
		check(t, sealed(larges(n), 1, 1, false))
		if r := sealed(larges(n), 1, 1, false); n > 35 {
			checkForm(t, raw(r))
		}
	}
}

// P13.1, M1: what a trace's spans cost, those too that are too many bytes for a record.
func TestCost(t *testing.T) {
	for n := 10; n <= 4609; n++ {
		if got := Cost(sized(n)); got != 16+n {
			t.Fatalf("of %d bytes: %d", n, got)
		}
	}
	for n := 1; n <= 64; n++ {
		if got := Cost(larges(n)); got != 16+1+101*n {
			t.Errorf("of %d large ones: %d", n, got)
		}
		if got := Cost(row(5, n)); got != 16+len(trace.Put(row(5, n))) {
			t.Errorf("of %d: %d", n, got)
		}
	}
	for i, l := range noTraces() {
		if got := Cost(l); got != 0 {
			t.Errorf("%d: %d", i, got)
		}
	}
	for _, l := range [][]api.Span{larges(65), row(0, 1), row(-1, 2), row(maxNumber+1, 1)} {
		if got := Cost(l); got != 0 {
			t.Errorf("%d spans: %d", len(l), got)
		}
	}
}

// P13.3: the frame of a Sealed one is no longer than the Cost of its Spans, of whatever class and tick.
func TestNoMore(t *testing.T) {
	hold := func(r api.Rec) {
		if size := frame.Size(len(Put(r))); size == 0 || size > Cost(r.Spans) || !bytes.HasSuffix(frame.Put(Put(r)), trace.Put(r.Spans)) {
			t.Fatalf("%.300v: a frame of %d, and it costs %d", r, size, Cost(r.Spans))
		}
	}
	for _, r := range right() {
		if r.Kind == api.Sealed {
			hold(r)
		}
	}
	for n := 10; n <= 3591; n++ {
		if n < 300 || n%7 == 0 || n > 3500 {
			hold(sealed(sized(n), n%8, int64(n), n%2 == 0))
			hold(sealed(sized(n), 7, maxNumber, true))
		}
	}
}

// P13.1, M2: no byte is ErrShort, whatever stands in its spare room; one byte alone is ErrForm.
func TestGetNone(t *testing.T) {
	for _, b := range [][]byte{nil, {}, make([]byte, 0, 9), []byte("\x05\x01")[:0], []byte("\x05\x01")[2:]} {
		checkGet(t, b, api.Rec{}, api.ErrShort)
	}
	for c := range 256 {
		checkForm(t, []byte{byte(c)})
		checkForm(t, []byte{byte(c), 1}[:1])
	}
}

// P13.1, M2: all bytes, up to two, behind each kind, and some of them behind what is none; and some bytes, up to five, behind each kind.
func TestGetShort(t *testing.T) {
	found := 0
	for kind := range 256 {
		for x := range 256 {
			if b := []byte{byte(kind), byte(x)}; kind < 8 || x%16 < 2 {
				checkPlain(t, b)
			}
			for y := range 256 {
				b := []byte{byte(kind), byte(x), byte(y)}
				switch {
				case kind >= 1 && kind <= 5:
					checkPlain(t, b)
					if _, e := Get(b); e == api.OK {
						found++
					}
				case x%16 < 2 && y%16 < 2:
					checkForm(t, b)
				}
			}
		}
	}
	// Of three kinds the numbers of two bytes, of Classed those of one with each class.
	if want := 3*127*128 + 127*8; found != want {
		t.Errorf("%d of three bytes are records; want %d", found, want)
	}
	some := []byte{0, 1, 2, 7, 8, 0x7f, 0x80, 0x81}
	for kind := 1; kind <= 5; kind++ {
		for i := range 1 << 15 {
			b := []byte{byte(kind), some[i&7], some[i>>3&7], some[i>>6&7], some[i>>9&7], some[i>>12]}
			checkPlain(t, b)
			checkPlain(t, b[:5])
		}
	}
}

// P13.1, M2: the first byte alone tells the kind.
func TestGetKind(t *testing.T) {
	for _, r := range right()[:40] {
		b := raw(r)
		for kind := range 256 {
			b[0] = byte(kind)
			if kind < 1 || kind > 5 {
				checkForm(t, b)
			} else {
				checkPlain(t, b)
			}
		}
	}
	for kind := 2; kind <= 5; kind++ { // what another kind has is none
		if kind != api.Classed {
			checkForm(t, append([]byte{byte(kind)}, "\xac\x02\x00"...))
			checkForm(t, append([]byte{byte(kind)}, raw(sealed(row(300, 1), 1, 1, false))[1:]...))
		} else {
			checkForm(t, []byte("\x04\xac\x02"))
		}
	}
}

// P13.1, M2: a byte of a class, or of a class and a pin, that may not be.
func TestGetClass(t *testing.T) {
	for _, l := range [][]api.Span{row(300, 1), row(maxNumber, 64), larges(3)} {
		for _, tick := range []int64{0, 8, 300, maxNumber} {
			b := raw(sealed(l, 0, tick, false))
			for c := range 256 {
				b[1] = byte(c)
				switch {
				case c < 8:
					checkGet(t, b, sealed(l, c, tick, false), api.OK)
				case c < 16:
					checkGet(t, b, sealed(l, c-8, tick, true), api.OK)
				default:
					checkForm(t, b)
				}
			}
		}
	}
	for _, id := range []int64{1, 7, 127, 128, 300, maxNumber} {
		for c := range 256 {
			b := append(append([]byte{4}, number(id)...), byte(c))
			if c < 8 {
				checkGet(t, b, api.Rec{Kind: 4, Id: id, Class: c}, api.OK)
			} else {
				checkForm(t, b)
			}
		}
	}
}

// badNumbers are bytes that begin with no number: cut, not as short as they may be, or too large.
func badNumbers() []string {
	return []string{
		"", "\x80", "\xff", "\x80\x80\x80\x80\x80\x80", "\x80\x00", "\x81\x00", "\xac\x82\x00", "\xff\x80\x00", "\xac\x82\x80\x80\x80\x80\x00", "\x80\x80\x80\x80\x80\x80\x00",
		"\x81\x80\x80\x80\x80\x80\x40", "\xff\xff\xff\xff\xff\xff\x7f", "\x80\x80\x80\x80\x80\x80\x41", "\x80\x80\x80\x80\x80\x80\x80", "\x81\x80\x80\x80\x80\x80\x80\x00", "\xff\xff\xff\xff\xff\xff\xff\xff\xff\x01",
	}
}

// P13.1, M2: an Id, a Tick and a number of spans that is none, or not as short as it may be, and an Id of 0, which may not be, as a Tick may.
func TestGetNumbers(t *testing.T) {
	l := row(300, 2)
	put := string(trace.Put(l))
	for _, n := range badNumbers() {
		for _, behind := range []string{"", "\x00", "\x07", put, put[1:]} {
			for kind := 2; kind <= 5; kind++ {
				checkPlain(t, append([]byte{byte(kind)}, n+behind...))
			}
			checkPlain(t, []byte("\x01\x03"+n+behind))
			checkPlain(t, []byte("\x01\x03\x05"+n+behind))
		}
		for kind := 2; kind <= 5; kind++ {
			checkForm(t, append([]byte{byte(kind)}, n...))
		}
		if len(n) > 1 && len(n) != 6 { // those that are cut may go on
			for kind := 2; kind <= 5; kind++ {
				checkForm(t, append([]byte{byte(kind)}, n+"\x00"...))
			}
			checkForm(t, []byte("\x01\x03"+n+put))
			checkForm(t, []byte("\x01\x03\x05"+n+put[1:]))
		}
	}
	for _, zero := range []string{"\x00", "\x00\x00", "\x80\x00"} {
		for kind := 2; kind <= 5; kind++ {
			checkForm(t, append([]byte{byte(kind)}, zero...))
			checkForm(t, append([]byte{byte(kind)}, zero+"\x01"...))
		}
	}
	checkGet(t, []byte("\x01\x03\x00"+put), sealed(l, 3, 0, false), api.OK)
	checkForm(t, []byte("\x01\x03\x80\x00"+put))
}

// P13.1, M2: a record of spans that are no trace's, or of another number of them.
func TestGetNoTrace(t *testing.T) {
	for _, ahead := range []string{"\x01\x00\x00", "\x01\x0f\xac\x02", "\x01\x08\x80\x80\x80\x80\x80\x80\x40"} {
		for _, l := range noTraces() {
			checkForm(t, append([]byte(ahead), loose(int64(len(l)), l...)...))
		}
		for _, n := range []int64{0, 1, 2, 4, 5, 64, 65, 127, 128, maxNumber} {
			checkForm(t, append([]byte(ahead), loose(n, row(300, 3)...)...))
		}
		for _, n := range []int{65, 66, 128} {
			checkForm(t, append([]byte(ahead), loose(int64(n), row(300, n)...)...))
			checkForm(t, append([]byte(ahead), loose(64, row(300, n)...)...))
		}
		checkForm(t, []byte(ahead))
	}
}

// P13.1, M2: a right record's bytes, cut at every place, are ErrForm, whatever stands in their spare room, and where none is left ErrShort.
func TestGetCut(t *testing.T) {
	for _, r := range right() {
		b := raw(r)
		step := max(1, len(b)/200)
		for n := range b {
			if n%step > 0 && n > 40 && n < len(b)-40 {
				continue
			}
			want := api.ErrForm
			if n == 0 {
				want = api.ErrShort
			}
			checkGet(t, b[:n], api.Rec{}, want)
			checkGet(t, slices.Clip(slices.Clone(b[:n])), api.Rec{}, want)
			if n > 0 && n < 40 { // and begun too late
				checkPlain(t, b[n:])
			}
		}
	}
}

// P13.1, M2: a right record's bytes with a byte behind them, whichever one it is, or more, are ErrForm.
func TestGetBehind(t *testing.T) {
	for _, r := range right() {
		b := raw(r)
		for c := range 256 {
			checkForm(t, append(slices.Clone(b), byte(c)))
		}
		for _, behind := range [][]byte{b, {0, 0}, {7, 7}, {0x80, 0}, make([]byte, 5000), raw(api.Rec{Kind: 5, Id: 1}), trace.Put(row(300, 1))} {
			checkForm(t, slices.Concat(b, behind))
		}
	}
}

// P13.1, M2 and P1: very many bytes are no record's.
func TestGetLong(t *testing.T) {
	for _, n := range []int{3601, 3602, 4096, 1<<16 + 2, 1 << 20} {
		for kind := range 8 {
			for _, c := range []byte{0, 1, 7, 0x7f, 0x80, 0xff} {
				b := bytes.Repeat([]byte{c}, n)
				b[0] = byte(kind)
				checkForm(t, b)
				b[1] = 3
				checkForm(t, b)
			}
			b := make([]byte, n)
			copy(b, "\x00\x01\x07")
			b[0] = byte(kind)
			checkForm(t, b)
		}
	}
}

// P13.2: one byte of a record changed, to each other one, and another one of a short record with it, against the plain words.
func TestGetChanged(t *testing.T) {
	found := 0
	for i, r := range []api.Rec{{Kind: 2, Id: 5}, {Kind: 3, Id: 300}, {Kind: 4, Id: maxNumber, Class: 3}, {Kind: 5, Id: 1 << 20}, sealed(row(300, 2), 2, 300, true), sealed(row(1, 3), 0, 0, false), sealed(larges(1), 7, maxNumber, true)} {
		whole := raw(r)
		for at := range whole {
			for c := range 256 {
				b := slices.Clone(whole)
				b[at] = byte(c)
				checkPlain(t, b)
				if _, e := Get(b); e == api.OK {
					found++
				}
				for other := range at {
					if i >= 4 {
						break
					}
					for _, c := range []byte{0, 1, 4, 7, 8, 0x7f, 0x80, 0x40} {
						b := slices.Clone(b)
						b[other] = c
						checkPlain(t, b)
					}
				}
			}
		}
	}
	if found < 1000 {
		t.Errorf("%d records alone", found)
	}
}

// stayed is a copy of a list, its spare room too.
func stayed[T any](l []T) []T { return slices.Clone(l[:cap(l)]) }

// P3: what is handed in is not changed, nor its spare room, whatever is done with what is told.
func TestMemoryIn(t *testing.T) {
	for _, r := range append(right(), api.Rec{}, api.Rec{Kind: 1, Id: 300, Spans: noTraces()[2]}, api.Rec{Kind: 1, Id: 300, Spans: row(300, 65)}, api.Rec{Kind: 5, Id: 1, Spans: row(1, 2)}, sealed(larges(64), 0, 0, false)) {
		room := append(slices.Clone(r.Spans), of(9, 9, 9), of(8, 8, 8))
		r.Spans = room[:len(r.Spans)]
		before := stayed(r.Spans)
		Right(r)
		Cost(r.Spans)
		b := Put(r)
		if !slices.Equal(stayed(r.Spans), before) {
			t.Fatalf("%.300v was changed", r)
		}
		b = append(b, 1, 2, 3, 4)
		in := b[:len(b)-4]
		was := stayed(in)
		got, _ := Get(in)
		clear(got.Spans[:cap(got.Spans)])
		if !bytes.Equal(stayed(in), was) {
			t.Fatalf("%s was changed", brief(was))
		}
		clear(b[:cap(b)])
		if !slices.Equal(stayed(r.Spans), before) {
			t.Fatalf("the bytes of %.300v share memory with it", r)
		}
	}
}

// P3: what is handed in is not kept: what was told stays as it is when that changes.
func TestMemoryKept(t *testing.T) {
	for _, r := range right() {
		l := slices.Clone(r.Spans)
		r.Spans = slices.Clone(l)
		b := Put(r)
		clear(r.Spans)
		r.Spans = l
		if !bytes.Equal(b, raw(r)) {
			t.Fatalf("Put keeps %.300v", r)
		}
		got, _ := Get(b)
		for i := range b {
			b[i] ^= 0xff
		}
		if !same(got, r) {
			t.Fatalf("Get keeps the bytes of %.300v", r)
		}
	}
}

// P3: what is told is one's own, its spare room too: no two answers share any.
func TestMemoryOut(t *testing.T) {
	for _, r := range right() {
		b, c := Put(r), Put(r)
		x, _ := Get(b)
		y, _ := Get(b)
		clear(b[:cap(b)])
		clear(x.Spans[:cap(x.Spans)])
		if !bytes.Equal(c, raw(r)) || !same(y, r) {
			t.Fatalf("two answers of %.300v share memory", r)
		}
		checkRight(t, r, c)
	}
}

// P3: an answer hangs on what was given alone, not on what was asked ahead.
func TestAgain(t *testing.T) {
	r := sealed(row(300, 3), 5, 300, true)
	b := raw(r)
	for _, x := range append(right(), api.Rec{}, api.Rec{Kind: 6, Id: 1}, api.Rec{Kind: 4, Id: 1, Class: 8}) {
		c := Put(x)
		Get(c)
		Get(append(c, 0))
		Cost(x.Spans)
		checkRight(t, r, b)
		checkRight(t, api.Rec{Kind: 4, Id: 300}, []byte("\x04\xac\x02\x00"))
		checkWrong(t, api.Rec{Kind: 2, Id: 300, Class: 1})
		if Cost(r.Spans) != 16+len(trace.Put(r.Spans)) || Cost(nil) != 0 {
			t.Fatalf("behind %.300v", x)
		}
	}
}

// P13.1, P13.2: any bytes, against the plain words.
func FuzzGet(f *testing.F) {
	for _, r := range right()[:60] {
		f.Add(raw(r))
	}
	f.Add([]byte("\x01\x10\x00"))
	f.Fuzz(func(t *testing.T, b []byte) {
		before := slices.Clone(b)
		checkPlain(t, b)
		if !bytes.Equal(b, before) {
			t.Fatalf("%x was changed", before)
		}
	})
}

// P13.1 to P13.3: any record of some spans, against the plain words.
func FuzzPut(f *testing.F) {
	f.Add(1, int64(300), 3, int64(5), true, 2, int64(300))
	f.Add(4, int64(300), 7, int64(0), false, 0, int64(0))
	f.Add(5, int64(maxNumber), 0, int64(0), false, 0, int64(0))
	f.Add(1, int64(maxNumber), 0, int64(maxNumber), false, 64, int64(maxNumber))
	f.Fuzz(func(t *testing.T, kind int, id int64, class int, tick int64, pin bool, many int, of int64) {
		r := api.Rec{Kind: kind, Id: id, Class: class, Tick: tick, Pin: pin, Spans: row(of, min(max(many, 0), 70))}
		check(t, r)
		if Right(r) && kind == api.Sealed && frame.Size(len(Put(r))) > Cost(r.Spans) {
			t.Fatalf("%.300v costs %d", r, Cost(r.Spans))
		}
	})
}
