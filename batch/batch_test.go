package batch

import (
	"bytes"
	"encoding/binary"
	"errors"
	"hash/crc32"
	"math"
	"slices"
	"strings"
	"testing"

	"turntable/api"
	"turntable/span"
	"turntable/vint"
)

const maxNumber = 1 << 48

// plain is a right span whose parts are all unlike; it takes 11 bytes.
func plain() api.Span {
	return api.Span{Trace: 5, Id: 6, Parent: 7, Start: 300, Dur: 2, Service: "a", Name: "bc"}
}

// small is a right span that takes 8 bytes.
func small() api.Span { return api.Span{Trace: 1, Id: 1, Service: "s"} }

// large is a right span that takes as many bytes as one may.
func large() api.Span {
	return api.Span{Trace: maxNumber, Id: maxNumber, Parent: maxNumber, Start: maxNumber / 2, Dur: maxNumber / 2, Service: strings.Repeat("\xff", 32), Name: strings.Repeat("n", 32)}
}

// row is n right spans, no two that stand together alike.
func row(n int) []api.Span {
	l := make([]api.Span, n)
	for i := range l {
		l[i] = api.Span{Trace: int64(n - i), Id: int64(i + 1), Start: int64(i * i * 7), Dur: int64(i), Service: strings.Repeat("s", 1+i%32), Name: strings.Repeat("n", i%33)}
	}
	return l
}

// batches are some: of no span, one, all alike, the largest ones, and as many as there may be and next to that.
func batches() [][]api.Span {
	return [][]api.Span{
		nil, {}, {plain()}, {small()}, {large()}, {plain(), plain()}, {large(), small(), plain()}, {plain(), large(), plain(), small()},
		row(2), row(63), row(64), row(65), row(127), row(128), row(129), row(255), row(256), slices.Repeat([]api.Span{large()}, 256), slices.Repeat([]api.Span{small()}, 256),
	}
}

// wrongs are spans that are not right, one for each reason.
func wrongs() []api.Span {
	out := []api.Span{{}}
	for _, spoil := range []func(s *api.Span){
		func(s *api.Span) { s.Trace = 0 }, func(s *api.Span) { s.Trace = maxNumber + 1 }, func(s *api.Span) { s.Trace = math.MinInt64 },
		func(s *api.Span) { s.Id = 0 }, func(s *api.Span) { s.Id = math.MaxInt64 }, func(s *api.Span) { s.Parent = -1 },
		func(s *api.Span) { s.Start = maxNumber }, func(s *api.Span) { s.Dur = math.MaxInt64 }, func(s *api.Span) { s.Start, s.Dur = -1, 1 },
		func(s *api.Span) { s.Service = "" }, func(s *api.Span) { s.Service = strings.Repeat("s", 33) }, func(s *api.Span) { s.Name = strings.Repeat("n", 33) },
	} {
		s := plain()
		spoil(&s)
		out = append(out, s)
	}
	return out
}

// sealed is a body, and its sum behind it, by the library's own reckoning.
func sealed(body string) []byte {
	sum := crc32.Checksum([]byte(body), crc32.MakeTable(crc32.Castagnoli))
	return binary.LittleEndian.AppendUint32([]byte(body), sum)
}

// plainBody is what is sealed of n spans, of which these are there.
func plainBody(n int64, l ...api.Span) string {
	b := vint.Put([]byte("TB"), n)
	for _, s := range l {
		b = span.Put(b, s)
	}
	return string(b)
}

// plainGet is what D2 says of Get, word for word.
func plainGet(b []byte) ([]api.Span, int, api.Errno) {
	if len(b) < 7 {
		return nil, 0, api.ErrShort
	}
	body := b[:len(b)-4]
	if !bytes.Equal(sealed(string(body)), b) {
		return nil, 0, api.ErrSum
	}
	if body[0] != 'T' || body[1] != 'B' {
		return nil, 0, api.ErrForm
	}
	n, size, e := vint.Get(body[2:])
	if e != api.OK {
		return nil, 2, e
	}
	if n > 256 {
		return nil, 2, api.ErrForm
	}
	var l []api.Span
	at := 2 + size
	for int64(len(l)) < n {
		s, size, e := span.Get(body[at:])
		if e != api.OK {
			return nil, at, e
		}
		l = append(l, s)
		at += size
	}
	if at != len(body) {
		return nil, at, api.ErrForm
	}
	return l, len(b), api.OK
}

func checkGet(t *testing.T, b []byte, l []api.Span, at int, e api.Errno) {
	t.Helper()
	if gl, ga, ge := Get(b); !slices.Equal(gl, l) || ga != at || ge != e {
		t.Fatalf("Get(%x) = %v, %d, %d; want %v, %d, %d", b, gl, ga, int(ge), l, at, int(e))
	}
}

// checkPlain holds Get to the plain words, and what is got to its bytes.
func checkPlain(t *testing.T, b []byte) {
	t.Helper()
	l, at, e := plainGet(b)
	checkGet(t, b, l, at, e)
	if got, _, e := Get(b); e == api.OK && !bytes.Equal(Put(got), b) {
		t.Fatalf("Get(%x) = %v, but its bytes are %x", b, got, Put(got))
	}
}

// P4.1, D1 and D2: batches whose bytes are known by hand; the chapter's example.
func TestKnownBytes(t *testing.T) {
	checkGet(t, nil, nil, 0, api.ErrShort)
	for _, x := range []struct {
		l    []api.Span
		body string
	}{
		{nil, "TB\x00"},
		{[]api.Span{plain()}, "TB\x01\x05\x06\x07\xac\x02\x02\x01a\x02bc"},
		{[]api.Span{small(), plain()}, "TB\x02\x01\x01\x00\x00\x00\x01s\x00\x05\x06\x07\xac\x02\x02\x01a\x02bc"},
		{[]api.Span{plain(), small()}, "TB\x02\x05\x06\x07\xac\x02\x02\x01a\x02bc\x01\x01\x00\x00\x00\x01s\x00"},
		{slices.Repeat([]api.Span{small()}, 256), "TB\x80\x02" + strings.Repeat("\x01\x01\x00\x00\x00\x01s\x00", 256)},
	} {
		want := sealed(x.body)
		if got := Put(x.l); !bytes.Equal(got, want) {
			t.Errorf("Put(%v) = %x, want %x", x.l, got, want)
		}
		checkGet(t, want, x.l, len(want), api.OK)
	}
	if got, want := Put([]api.Span{small()}), "TB\x01\x01\x01\x00\x00\x00\x01s\x00"; len(got) != len(want)+4 || string(got[:len(want)]) != want {
		t.Errorf("%x", got)
	}
}

// P4.1, D1 and P4.2: a batch's bytes are the words', and it is got of them, with how many they are.
func TestThereAndBack(t *testing.T) {
	for _, l := range batches() {
		b := Put(l)
		if want := sealed(plainBody(int64(len(l)), l...)); !bytes.Equal(b, want) {
			t.Fatalf("Put of %d spans = %x, want %x", len(l), b, want)
		}
		checkGet(t, b, l, len(b), api.OK)
		checkPlain(t, b)
	}
}

// P4.1, D1: 256 spans are a batch, one more is none, nor are many more.
func TestPutTooMany(t *testing.T) {
	for n, is := range map[int]bool{0: true, 1: true, 255: true, 256: true, 257: false, 258: false, 511: false, 512: false, 513: false, 1 << 16: false, 1<<16 + 1: false} {
		if b := Put(slices.Repeat([]api.Span{small()}, n)); (len(b) > 0) != is {
			t.Errorf("%d spans: %d bytes", n, len(b))
		}
	}
}

// P4.1, D1 and P1: one span that is not right, wherever it stands, makes all of them no batch.
func TestPutWrong(t *testing.T) {
	for _, w := range wrongs() {
		for _, n := range []int{1, 2, 3, 256, 257} {
			for _, at := range []int{0, n / 2, n - 1} {
				l := slices.Repeat([]api.Span{plain()}, n)
				l[at] = w
				if b := Put(l); len(b) != 0 {
					t.Errorf("%#v as span %d of %d: %x", w, at, n, b)
				}
			}
		}
	}
	if b := Put(make([]api.Span, 3)); len(b) != 0 {
		t.Errorf("zero spans: %x", b)
	}
}

// P4.1, D2: fewer than seven bytes are ErrShort, whatever they are: their sum may be right, and their letters others.
func TestGetShort(t *testing.T) {
	for _, b := range [][]byte{nil, {}, sealed(""), sealed("T"), sealed("TB"), sealed("XY"), []byte("TB\x00"), []byte("XXXXXX"), make([]byte, 6), Put(nil)[:6]} {
		checkGet(t, b, nil, 0, api.ErrShort)
	}
	whole := bytes.Repeat([]byte{0xff}, 7)
	for n := range whole {
		checkGet(t, whole[:n], nil, 0, api.ErrShort)
	}
	checkGet(t, whole, nil, 0, api.ErrSum)
}

// P4.1, D2: bytes whose sum is another are ErrSum, whatever else is wrong with them.
func TestGetSum(t *testing.T) {
	for _, b := range [][]byte{make([]byte, 7), []byte("TB\x00\x00\x00\x00\x00"), []byte("XXXXXXX"), []byte("TB\x80\x00\x00\x00\x00\x00"), append(Put(nil), 0), append(Put(row(3)), "more"...), append([]byte{0}, Put(row(3))...), bytes.Repeat([]byte{0xff}, 5000)} {
		checkGet(t, b, nil, 0, api.ErrSum)
	}
	b := Put(row(2))
	slices.Reverse(b[len(b)-4:]) // the lowest byte is the first one
	checkGet(t, b, nil, 0, api.ErrSum)
	for _, l := range batches()[:8] {
		b := Put(l)
		for i := range b {
			for _, c := range []byte{0x01, 0x80, 0xff} {
				other := bytes.Clone(b)
				other[i] ^= c
				checkGet(t, other, nil, 0, api.ErrSum)
			}
		}
	}
}

// P4.1, D2 and P2: sealed bytes that do not begin with T and B are ErrForm at 0, whatever is behind these letters.
func TestGetMark(t *testing.T) {
	for _, m := range []string{"TX", "XB", "BT", "tb", "Tb", "tB", "TT", "BB", "\x00\x00", "\xd4\xc2", " T"} {
		for _, behind := range []string{"\x00", "\x80", "\x80\x00", "\xff\xff\xff\xff\xff\xff\xff", "\x01", plainBody(1, plain())[2:], plainBody(2, plain())[2:], plainBody(0)} {
			checkGet(t, sealed(m+behind), nil, 0, api.ErrForm)
		}
	}
}

// P4.1, D2: a number of spans that is cut, is no number, or is above 256, has its error at 2.
func TestGetNumber(t *testing.T) {
	for _, x := range []struct {
		b    string
		want api.Errno
	}{
		{"\x80", api.ErrShort}, {"\xff", api.ErrShort}, {"\x80\x80\x80\x80\x80\x80", api.ErrShort}, {"\xff\xff\xff\xff\xff\xff", api.ErrShort},
		{"\x80\x00", api.ErrForm}, {"\x81\x80\x00", api.ErrForm}, {"\x80\x80\x80\x80\x80\x80\x80", api.ErrForm}, {"\x81\x80\x80\x80\x80\x80\x40", api.ErrForm},
		{"\x81\x02", api.ErrForm}, {"\x82\x02", api.ErrForm}, {"\x80\x04", api.ErrForm}, {"\x80\x80\x04", api.ErrForm}, {"\x80\x80\x80\x80\x10", api.ErrForm}, {"\x80\x82\x80\x80\x10", api.ErrForm}, {"\x80\x80\x80\x80\x80\x80\x40", api.ErrForm},
	} {
		checkGet(t, sealed("TB"+x.b), nil, 2, x.want)
		if x.want == api.ErrForm {
			checkGet(t, sealed("TB"+x.b+"\x80"), nil, 2, api.ErrForm)
			checkGet(t, sealed("TB"+x.b+plainBody(0, slices.Repeat([]api.Span{small()}, 260)...)[3:]), nil, 2, api.ErrForm)
		}
	}
	checkGet(t, sealed(plainBody(257, slices.Repeat([]api.Span{small()}, 257)...)), nil, 2, api.ErrForm)
	checkGet(t, sealed(plainBody(257, slices.Repeat([]api.Span{small()}, 256)...)), nil, 2, api.ErrForm)
}

// notRight are a span's parts, which are all there, of one that is not right.
func notRight() []string {
	return []string{
		"\x00\x06\x07\xac\x02\x02\x01a\x02bc", "\x05\x00\x07\xac\x02\x02\x01a\x02bc", "\x05\x06\x07\xac\x02\x02\x00\x02bc",
		"\x05\x06\x07\x80\x80\x80\x80\x80\x80\x40\x02\x01a\x02bc", "\x05\x06\x07\x01\x80\x80\x80\x80\x80\x80\x40\x01a\x02bc", "\x80\x00\x06\x07\xac\x02\x02\x01a\x02bc", "\x05\x06\x07\xac\x02\x02\x21", "\x05\x06\x07\xac\x02\x02\x01a\x21",
	}
}

// ahead is where a span begins that has so many right ones ahead of it, and the bytes up to there, of a batch of n.
func ahead(n int64, l []api.Span) (string, int) {
	b := plainBody(n, l...)
	return b, len(b)
}

// P4.1, D2: a span that is cut at any place, or is not right, has span.Get's error, at the place at which it begins, whichever one it is.
func TestGetSpan(t *testing.T) {
	for _, n := range []int64{1, 2, 3, 128, 256} {
		for _, k := range []int64{0, 1, 2, n / 2, n - 1} {
			if k >= n {
				continue
			}
			body, at := ahead(n, row(int(k)))
			whole := string(span.Put(nil, plain()))
			for cut := range whole {
				checkGet(t, sealed(body+whole[:cut]), nil, at, api.ErrShort)
			}
			for _, w := range notRight() {
				checkGet(t, sealed(body+w), nil, at, api.ErrForm)
				checkGet(t, sealed(body+w+whole), nil, at, api.ErrForm)
			}
		}
	}
}

// P4.1, D2: of more than one span that has an error the first one tells it, and where.
func TestGetFirstSpan(t *testing.T) {
	body, at := ahead(5, row(2))
	right := string(span.Put(nil, plain()))
	for _, w := range notRight() {
		for _, v := range notRight() {
			checkGet(t, sealed(body+w+v), nil, at, api.ErrForm)
			checkGet(t, sealed(body+w+right+v), nil, at, api.ErrForm)
		}
		checkGet(t, sealed(body+w+right[:4]), nil, at, api.ErrForm)
		checkGet(t, sealed(body+right+w+right+right+"behind"), nil, at+len(right), api.ErrForm)
		checkGet(t, sealed(body+right+right+w), nil, at+2*len(right), api.ErrForm)
	}
	checkGet(t, sealed(body+right+right), nil, at+2*len(right), api.ErrShort)
}

// P4.1, D2: what is behind the last span is ErrForm where that ends; of no span, behind the number of them.
func TestGetBehind(t *testing.T) {
	for _, l := range batches() {
		body, at := ahead(int64(len(l)), l)
		for _, behind := range []string{"\x00", "z", "\x80", "\x80\x00", "TB", string(span.Put(nil, plain())), string(Put(l)), strings.Repeat("\x00", 5000)} {
			checkGet(t, sealed(body+behind), nil, at, api.ErrForm)
		}
	}
	checkGet(t, sealed("TB\x00z"), nil, 3, api.ErrForm)
	checkGet(t, sealed("TB\x01\x01\x01\x00\x00\x00\x01s\x00z"), nil, 11, api.ErrForm)
}

// P4.3: bytes that are cut, at each place, are none; those that were cut in the sum alone or deeper, and those cut and sealed again.
func TestCut(t *testing.T) {
	for _, l := range batches() {
		b := Put(l)
		step := 1 + len(b)/500 // each place of all but the longest ones
		for k := 0; k < len(b); k += step {
			for _, c := range [][]byte{b[:k:k], b[:k]} {
				if got, at, e := Get(c); e != api.ErrShort && e != api.ErrSum || (e == api.ErrShort) != (k < 7) || at != 0 || len(got) != 0 {
					t.Fatalf("%d of %d bytes: %v, %d, %d", k, len(b), got, at, int(e))
				}
			}
			if k < len(b)-4 {
				if _, _, e := Get(sealed(string(b[:k]))); e != api.ErrShort {
					t.Fatalf("%d of %d bytes, sealed: %d", k, len(b), int(e))
				}
			}
		}
		for k := 1; k < len(b); k += step { // cut at the front
			if got, at, e := Get(b[k:]); e == api.OK || at != 0 || len(got) != 0 {
				t.Fatalf("%d bytes from the front: %v, %d, %d", k, got, at, int(e))
			}
		}
	}
}

// P4.3: bytes that are cut behind a Name that happens to be the sum of what is ahead of it are opened, and none all the same.
func TestCutAtSum(t *testing.T) {
	for k := range 3 {
		for _, n := range []int{k + 1, k + 2} {
			l := slices.Repeat([]api.Span{plain()}, n)
			l[k].Name = "sum!"
			body := plainBody(int64(n), l[:k+1]...)
			cut := sealed(body[:len(body)-4])
			l[k].Name = string(cut[len(cut)-4:])
			b := Put(l)
			if !bytes.HasPrefix(b, cut) {
				t.Fatalf("%x does not begin with %x", b, cut)
			}
			checkGet(t, b, l, len(b), api.OK)
			_, at := ahead(int64(n), l[:k])
			checkGet(t, b[:len(cut)], nil, at, api.ErrShort)
		}
	}
}

// turned is b with these bits turned, the first of them the bit at, counted from the lowest of the first byte on; what is beyond b's end is left out.
func turned(b []byte, at int, bits uint32) []byte {
	out := bytes.Clone(b)
	for i := range 32 {
		if k := at + i; bits>>i&1 == 1 && k < 8*len(out) {
			out[k/8] ^= 1 << (k % 8)
		}
	}
	return out
}

// bursts are bits within 32, the first of them turned: alone, all of them, each other one with it, and some mixtures.
func bursts() []uint32 {
	out := []uint32{1, math.MaxUint32, 0x55555555, 0x82F63B79, 0x80000001, 0xff, 0xff000001}
	mix := uint32(1)
	for i := 1; i < 32; i++ {
		mix = mix*1664525 + 1013904223
		out = append(out, 1|1<<i, mix|1)
	}
	return out
}

// P4.3: bytes in which something within 32 bits has turned, at each place, are none: their sum tells it.
func TestBursts(t *testing.T) {
	for _, l := range [][]api.Span{nil, {plain()}, {small(), plain()}, {large()}, row(5)} {
		b := Put(l)
		for at := range 8 * len(b) {
			for _, bits := range bursts() {
				checkGet(t, turned(b, at, bits), nil, 0, api.ErrSum)
			}
		}
	}
}

// P4.1, D2, P4.2 and P1: Get is what the words say of a sealed body in which one byte or two are any others; what is got has the bytes.
func TestGetChanged(t *testing.T) {
	body := []byte(plainBody(2, small(), plain()) + "\x00")
	found := 0
	check := func(b []byte) {
		checkPlain(t, sealed(string(b)))
		checkPlain(t, sealed(string(b[:len(b)-1])))
		if _, _, e := Get(sealed(string(b[:len(b)-1]))); e == api.OK {
			found++
		}
	}
	some := []byte{0, 1, 2, 3, 'B', 'T', 0x7f, 0x80, 0xff}
	for i := range body {
		b := bytes.Clone(body)
		for c := range 256 {
			b[i] = byte(c)
			check(b)
		}
		for j := range i {
			for k := range len(some) * len(some) {
				b[i], b[j] = some[k/len(some)], some[k%len(some)]
				check(b)
			}
			b[j] = body[j]
		}
	}
	if found < 1000 {
		t.Errorf("%d batches alone", found)
	}
}

// FuzzGet holds Get to the plain words at whatever bytes there are, with their own sum and with the right one.
func FuzzGet(f *testing.F) {
	for _, l := range batches()[:9] {
		f.Add(Put(l))
		f.Add([]byte(plainBody(int64(len(l)), l...)))
	}
	f.Fuzz(func(t *testing.T, b []byte) {
		before := string(b)
		checkPlain(t, b)
		checkPlain(t, sealed(before))
		if string(b) != before {
			t.Errorf("the bytes have changed: %x", b)
		}
	})
}

// P3: Put changes neither the list nor its spare room; its bytes are new memory each time, and the same of the same spans.
func TestPutNewMemory(t *testing.T) {
	whole := slices.Concat(row(4), wrongs())
	before := slices.Clone(whole)
	for n := range 7 {
		first := Put(whole[:n])
		want := string(first)
		for i := range first[:cap(first)] {
			first[:cap(first)][i] = 0x11
		}
		if again := Put(whole[:n]); string(again) != want {
			t.Errorf("%d spans: %x, then %x", n, want, again)
		}
		if strings.Trim(string(first), "\x11") != "" {
			t.Errorf("%d spans: an answer has changed: %x", n, first)
		}
	}
	if !slices.Equal(whole, before) {
		t.Errorf("the list, or its spare room, has changed: %v", whole)
	}
}

// P3: Get reads alone; its list is new memory each time, that stays as it is when the bytes change; an error leaves nothing behind for the next call.
func TestGetNewMemory(t *testing.T) {
	l := row(4)
	whole := append(Put(l), bytes.Repeat([]byte{0xa5}, 100)...)
	b := whole[:len(whole)-100]
	before := string(whole)
	first, _, _ := Get(b)
	second, _, _ := Get(b)
	clear(second[:cap(second)])
	Get(b[:9])
	Get(sealed(string(b[:9])))
	if string(whole) != before {
		t.Errorf("the bytes, or their spare room, have changed: %x", whole)
	}
	checkGet(t, b, l, len(b), api.OK)
	clear(whole)
	if !slices.Equal(first, l) {
		t.Errorf("the spans have changed: %v", first)
	}
}

// Ways: what is wrong wraps one of api's errors in where it is, and both are found again.
func TestFault(t *testing.T) {
	for _, x := range []struct {
		b    []byte
		want fault
	}{
		{nil, fault{0, api.ErrShort}}, {make([]byte, 7), fault{0, api.ErrSum}}, {sealed("TX\x00"), fault{0, api.ErrForm}},
		{sealed("TB\x80"), fault{2, api.ErrShort}}, {sealed("TB\x80\x00"), fault{2, api.ErrForm}}, {sealed("TB\x81\x02"), fault{2, api.ErrForm}},
		{sealed("TB\x01"), fault{3, api.ErrShort}}, {sealed("TB\x01\x00\x01\x00\x00\x00\x01s\x00"), fault{3, api.ErrForm}}, {sealed("TB\x00z"), fault{3, api.ErrForm}},
	} {
		l, err := decode(x.b)
		var got fault
		if !errors.As(err, &got) || got != x.want || !errors.Is(err, x.want.err) || errno(err) != x.want.err || len(l) != 0 {
			t.Errorf("%x: %v, want %v", x.b, err, x.want)
		}
	}
	if l, err := decode(Put(row(2))); err != nil || !slices.Equal(l, row(2)) {
		t.Errorf("%v, %v", l, err)
	}
	if got := (fault{3, api.ErrForm}).Error(); got != "batch: byte 3: turntable: error 12" {
		t.Error(got)
	}
}
