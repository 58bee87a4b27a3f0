package span

import (
	"bytes"
	"errors"
	"math"
	"math/big"
	"strings"
	"testing"

	"turntable/api"
	"turntable/vint"
)

const maxNumber = 1 << 48

// plain is a right span whose parts are all unlike.
func plain() api.Span {
	return api.Span{Trace: 5, Id: 6, Parent: 7, Start: 300, Dur: 2, Service: "a", Name: "bc"}
}

// numberPart is a number of a span: from where on it may be, and where it stands.
type numberPart struct {
	name  string
	least int64
	of    func(s *api.Span) *int64
}

// textPart is a text of a span: how many bytes it has at least, and where it stands.
type textPart struct {
	name  string
	least int
	of    func(s *api.Span) *string
}

// numberParts are the five numbers, in the order of their bytes.
func numberParts() []numberPart {
	return []numberPart{
		{"Trace", 1, func(s *api.Span) *int64 { return &s.Trace }},
		{"Id", 1, func(s *api.Span) *int64 { return &s.Id }},
		{"Parent", 0, func(s *api.Span) *int64 { return &s.Parent }},
		{"Start", 0, func(s *api.Span) *int64 { return &s.Start }},
		{"Dur", 0, func(s *api.Span) *int64 { return &s.Dur }},
	}
}

// textParts are the two texts, in the order of their bytes.
func textParts() []textPart {
	return []textPart{
		{"Service", 1, func(s *api.Span) *string { return &s.Service }},
		{"Name", 0, func(s *api.Span) *string { return &s.Name }},
	}
}

// edges are numbers at, and around, all bounds that there are.
func edges() []int64 {
	return []int64{
		math.MinInt64, math.MinInt64 + 1, -maxNumber - 1, -maxNumber, -maxNumber + 1, math.MinInt32, -300, -2, -1,
		0, 1, 2, 127, 128, 299, 300, math.MaxInt32, 1 << 32, maxNumber/2 - 1, maxNumber / 2, maxNumber/2 + 1,
		maxNumber - 301, maxNumber - 300, maxNumber - 299, maxNumber - 2, maxNumber - 1,
		maxNumber, maxNumber + 1, maxNumber + 2, 2 * maxNumber, 1 << 62, math.MaxInt64 - maxNumber, math.MaxInt64 - 300, math.MaxInt64 - 1, math.MaxInt64,
	}
}

// plainRight is the chapter's words for a span that is right. The sum is one of numbers that know no end.
func plainRight(s api.Span) bool {
	for _, p := range numberParts() {
		if n := *p.of(&s); n < p.least || n > maxNumber {
			return false
		}
	}
	for _, p := range textParts() {
		if n := len(*p.of(&s)); n < p.least || n > 32 {
			return false
		}
	}
	sum := new(big.Int).Add(big.NewInt(s.Start), big.NewInt(s.Dur))
	return sum.Cmp(big.NewInt(maxNumber)) <= 0
}

// raw are the bytes of all parts, right or not, as long as vint has bytes for each.
func raw(s api.Span) []byte {
	var b []byte
	for _, p := range numberParts() {
		b = vint.Put(b, *p.of(&s))
	}
	for _, p := range textParts() {
		b = vint.PutText(b, *p.of(&s))
	}
	return b
}

// plainGet is what C2 says of Get, word for word.
func plainGet(b []byte) (api.Span, int, api.Errno) {
	var s api.Span
	at := 0
	for _, p := range numberParts() {
		n, size, e := vint.Get(b[at:])
		if e != api.OK {
			return api.Span{}, 0, e
		}
		*p.of(&s) = n
		at += size
	}
	for _, p := range textParts() {
		x, size, e := vint.GetText(b[at:])
		if e != api.OK {
			return api.Span{}, 0, e
		}
		*p.of(&s) = x
		at += size
	}
	if !plainRight(s) {
		return api.Span{}, 0, api.ErrForm
	}
	return s, at, api.OK
}

// rights are right spans: each part at its edges, alone and with others.
func rights() []api.Span {
	out := []api.Span{
		plain(),
		{Trace: 1, Id: 1, Service: "s"},
		{Trace: maxNumber, Id: maxNumber, Parent: maxNumber, Start: maxNumber, Service: strings.Repeat("s", 32), Name: strings.Repeat("n", 32)},
		{Trace: maxNumber, Id: maxNumber, Parent: maxNumber, Dur: maxNumber, Service: strings.Repeat("\xff", 32), Name: strings.Repeat("\x80", 32)},
		{Trace: 1 << 42, Id: 1 << 42, Parent: 1 << 42, Start: 1 << 42, Dur: 1 << 42, Service: "\x00", Name: "\x00\x00"},
		{Trace: 128, Id: 1 << 14, Parent: 1 << 21, Start: 1 << 28, Dur: 1 << 35, Service: "größe", Name: ""},
		{Trace: 9, Id: 9, Parent: 9, Start: maxNumber / 2, Dur: maxNumber / 2, Service: "\x80\x80\x80\x80\x80\x80\x80", Name: "\x20"},
	}
	for _, p := range numberParts() {
		for _, n := range edges() {
			s := plain()
			*p.of(&s) = n
			if plainRight(s) {
				out = append(out, s)
			}
		}
	}
	for _, p := range textParts() {
		for n := p.least; n <= 32; n++ {
			s := plain()
			*p.of(&s) = strings.Repeat("t", n)
			out = append(out, s)
		}
	}
	return out
}

// wrongs are spans of which one part alone, or Start and Dur together, may not be so.
func wrongs() []api.Span {
	var out []api.Span
	for _, p := range numberParts() {
		for _, n := range edges() {
			s := plain()
			*p.of(&s) = n
			if !plainRight(s) {
				out = append(out, s)
			}
		}
	}
	for _, p := range textParts() {
		for _, n := range []int{0, 33, 34, 127, 128, 255, 256, 257, 288, 1 << 16, 1<<16 + 1} {
			if n >= p.least && n <= 32 {
				continue
			}
			s := plain()
			*p.of(&s) = strings.Repeat("t", n)
			out = append(out, s)
		}
	}
	for _, x := range [][2]int64{{maxNumber, 1}, {1, maxNumber}, {maxNumber, maxNumber}, {maxNumber/2 + 1, maxNumber / 2}, {math.MaxInt64, 1}, {1, math.MaxInt64}, {math.MaxInt64, math.MaxInt64}, {-1, 1}, {1, -1}, {maxNumber + 1, -1}, {-1, maxNumber + 1}, {math.MinInt64, math.MinInt64}, {math.MinInt64, math.MaxInt64}} {
		s := plain()
		s.Start, s.Dur = x[0], x[1]
		out = append(out, s)
	}
	return append(out, api.Span{})
}

func checkGet(t *testing.T, b []byte, s api.Span, size int, e api.Errno) {
	t.Helper()
	if gs, gn, ge := Get(b); gs != s || gn != size || ge != e {
		t.Fatalf("Get(%x) = %#v, %d, %d; want %#v, %d, %d", b, gs, gn, int(ge), s, size, int(e))
	}
}

// P3.1, C1: each number at its edges, with all else right: the least that may be, the greatest, and one beyond either.
func TestRightNumbers(t *testing.T) {
	for _, p := range numberParts() {
		for _, n := range []int64{math.MinInt64, -1, 0, 1, maxNumber - 1, maxNumber, maxNumber + 1, math.MaxInt64} {
			s := plain()
			s.Start, s.Dur = 0, 0 // so that neither one hinders the other
			*p.of(&s) = n
			if got, want := Right(s), n >= p.least && n <= maxNumber; got != want {
				t.Errorf("%s %d: %v", p.name, n, got)
			}
		}
	}
}

// P3.1, C1: Start and Dur together at MaxNumber are right, one above is not.
func TestRightTogether(t *testing.T) {
	for _, start := range []int64{0, 1, 2, 300, maxNumber / 2, maxNumber - 2, maxNumber - 1, maxNumber} {
		s := plain()
		s.Start = start
		for d := int64(-1); d <= 1; d++ {
			s.Dur = maxNumber - start + d
			if got, want := Right(s), d <= 0 && s.Dur >= 0; got != want {
				t.Errorf("Start %d, Dur %d: %v", s.Start, s.Dur, got)
			}
		}
	}
}

// P3.1, C1 and the chapter's example: texts of no byte, one, MaxText and one more; they may have any bytes.
func TestRightTexts(t *testing.T) {
	s := plain()
	if s.Service = ""; Right(s) {
		t.Error("a Service of no byte is right")
	}
	for _, p := range textParts() {
		for _, n := range []int{0, 1, 2, 31, 32, 33, 34, 64, 256, 257, 1 << 16} {
			for _, c := range []string{"t", "\x00", "\xff"} {
				s := plain()
				*p.of(&s) = strings.Repeat(c, n)
				if got, want := Right(s), n >= p.least && n <= 32; got != want {
					t.Errorf("%s of %d bytes: %v", p.name, n, got)
				}
			}
		}
	}
	s = plain()
	if s.Service = strings.Repeat("ö", 17); Right(s) { // 17 letters, 34 bytes
		t.Error("bytes count, not letters")
	}
}

// P3.1, C1 and P1: Right and End are the plain words, at every pair of edges in every two numbers.
func TestRightAndEnd(t *testing.T) {
	for i, p := range numberParts() {
		for _, q := range numberParts()[i+1:] {
			for _, m := range edges() {
				for _, n := range edges() {
					s := plain()
					*p.of(&s), *q.of(&s) = m, n
					want, end := plainRight(s), int64(0)
					if want {
						end = s.Start + s.Dur
					}
					if Right(s) != want || End(s) != end {
						t.Fatalf("%#v: Right %v, End %d; want %v, %d", s, Right(s), End(s), want, end)
					}
				}
			}
		}
	}
}

// P3.1, C1: End is 0 of whatever is not right, whichever part it is.
func TestEnd(t *testing.T) {
	for _, x := range [][3]int64{{0, 0, 0}, {0, 1, 1}, {1, 0, 1}, {300, 2, 302}, {maxNumber, 0, maxNumber}, {0, maxNumber, maxNumber}, {300, maxNumber - 300, maxNumber}, {300, maxNumber - 299, 0}} {
		s := plain()
		s.Start, s.Dur = x[0], x[1]
		if got := End(s); got != x[2] {
			t.Errorf("Start %d, Dur %d: %d", x[0], x[1], got)
		}
	}
	for _, s := range wrongs() {
		if Right(s) || End(s) != 0 {
			t.Errorf("%#v: %v, %d", s, Right(s), End(s))
		}
	}
}

// P3.1, C1: the Start is asked first, the Id where it is the same, and nothing else.
func TestLess(t *testing.T) {
	for _, x := range []struct {
		a, b [2]int64 // Start, Id
		want bool
	}{
		{[2]int64{1, 1}, [2]int64{2, 1}, true}, {[2]int64{2, 1}, [2]int64{1, 1}, false}, {[2]int64{1, 9}, [2]int64{2, 1}, true}, {[2]int64{2, 1}, [2]int64{1, 9}, false},
		{[2]int64{1, 1}, [2]int64{1, 2}, true}, {[2]int64{1, 2}, [2]int64{1, 1}, false}, {[2]int64{1, 1}, [2]int64{1, 1}, false},
		{[2]int64{math.MinInt64, 0}, [2]int64{math.MaxInt64, 0}, true}, {[2]int64{math.MaxInt64, 0}, [2]int64{math.MinInt64, 0}, false},
		{[2]int64{0, math.MinInt64}, [2]int64{0, math.MaxInt64}, true}, {[2]int64{0, math.MaxInt64}, [2]int64{0, math.MinInt64}, false},
	} {
		a := api.Span{Start: x.a[0], Id: x.a[1]}
		b := api.Span{Start: x.b[0], Id: x.b[1]}
		if got := Less(a, b); got != x.want {
			t.Errorf("%v ahead of %v: %v", x.a, x.b, got)
		}
		a.Trace, a.Parent, a.Dur, a.Service, a.Name = 9, 9, 9, "z", "z"
		if got := Less(a, b); got != x.want {
			t.Errorf("%v ahead of %v, which is less in all else: %v", x.a, x.b, got)
		}
		a.Trace, a.Parent, a.Dur, a.Service, a.Name = -9, -9, -9, "", ""
		b.Service, b.Name = "z", "z"
		if got := Less(a, b); got != x.want {
			t.Errorf("%v, which is less in all else, ahead of %v: %v", x.a, x.b, got)
		}
	}
}

// P3.4: of any two spans one alone is ahead, but where Start and Id are both the same; and who is ahead of one that is ahead of a third is ahead of that.
func TestStrictOrder(t *testing.T) {
	var l []api.Span
	for _, start := range []int64{math.MinInt64, -1, 0, 1, 300, maxNumber, math.MaxInt64} {
		for _, id := range []int64{math.MinInt64, -1, 0, 1, 2, maxNumber, math.MaxInt64} {
			// What is not asked for runs against the order.
			l = append(l, api.Span{Start: start, Id: id, Trace: -id, Parent: ^start, Dur: ^start, Service: strings.Repeat("s", 100-len(l))})
		}
	}
	for i, a := range l { // they stand in order
		for j, b := range l {
			if Less(a, b) != (i < j) {
				t.Errorf("%#v ahead of %#v: %v", a, b, Less(a, b))
			}
			for _, c := range l {
				if Less(a, b) && Less(b, c) && !Less(a, c) {
					t.Errorf("%#v, %#v, %#v", a, b, c)
				}
			}
		}
	}
}

// P3.1, C2: spans whose bytes are known by hand.
func TestKnownBytes(t *testing.T) {
	for _, x := range []struct {
		s api.Span
		b string
	}{
		{plain(), "\x05\x06\x07\xac\x02\x02\x01a\x02bc"},
		{api.Span{Trace: 1, Id: 1, Service: "s"}, "\x01\x01\x00\x00\x00\x01s\x00"},
		{api.Span{Trace: 300, Id: 127, Parent: 128, Start: 0, Dur: maxNumber, Service: "ab", Name: "\x80"}, "\xac\x02\x7f\x80\x01\x00\x80\x80\x80\x80\x80\x80\x40\x02ab\x01\x80"},
	} {
		for _, ahead := range []string{"", "\x00", "ab\x80"} {
			if got := Put([]byte(ahead), x.s); string(got) != ahead+x.b {
				t.Errorf("Put(%x, %#v) = %x, want %x", ahead, x.s, got, x.b)
			}
		}
		checkGet(t, []byte(x.b), x.s, len(x.b), api.OK)
	}
}

// P3.1, C2: a right span's bytes are those of its parts, behind any bytes.
func TestPut(t *testing.T) {
	for _, s := range rights() {
		for _, ahead := range []string{"", "\x80", strings.Repeat("ahead", 100)} {
			if got, want := Put([]byte(ahead), s), ahead+string(raw(s)); string(got) != want {
				t.Fatalf("Put(%x, %#v) = %x, want %x", ahead, s, got, want)
			}
		}
	}
}

// P3.1, C2: what is not right is not put, not a part of it.
func TestPutWrong(t *testing.T) {
	for _, s := range wrongs() {
		for _, ahead := range []string{"", "ab\x80"} {
			if got := Put([]byte(ahead), s); string(got) != ahead {
				t.Fatalf("Put(%x, %#v) = %x", ahead, s, got)
			}
		}
		if got := Put(nil, s); len(got) != 0 {
			t.Fatalf("Put(nil, %#v) = %x", s, got)
		}
	}
}

// P3.2: a right span is got of its bytes, whatever is behind them.
func TestThere(t *testing.T) {
	for _, s := range rights() {
		b := Put(nil, s)
		for _, behind := range []string{"", "\x00", "\x01", "\x7f", "\x80", "\x80\x80\x80\x80\x80\x80\x80\x80", "\xff\xff", "more", string(b), strings.Repeat("\x00", 5000)} {
			checkGet(t, append(bytes.Clone(b), behind...), s, len(b), api.OK)
		}
	}
}

// P3.3 and P2: bytes that are cut are ErrShort, at each place, whatever stands in their spare room.
func TestCut(t *testing.T) {
	for _, s := range rights() {
		b := Put(nil, s)
		for k := range b {
			checkGet(t, b[:k:k], api.Span{}, 0, api.ErrShort)
			checkGet(t, b[:k], api.Span{}, 0, api.ErrShort)
		}
	}
	checkGet(t, nil, api.Span{}, 0, api.ErrShort)
	checkGet(t, []byte{}, api.Span{}, 0, api.ErrShort)
}

// P3.1, C2 and P2: bytes whose parts are all there, of a span that is not right, are ErrForm; where they are cut, ErrShort, for that is the error of a part.
func TestGetNotRight(t *testing.T) {
	tried := 0
	for _, s := range wrongs() {
		fits := len(s.Service) <= 32 && len(s.Name) <= 32
		for _, p := range numberParts() {
			fits = fits && *p.of(&s) >= 0 && *p.of(&s) <= maxNumber
		}
		if !fits { // vint has no bytes for it
			continue
		}
		tried++
		b := raw(s)
		checkGet(t, b, api.Span{}, 0, api.ErrForm)
		checkGet(t, append(bytes.Clone(b), "more"...), api.Span{}, 0, api.ErrForm)
		for k := range b {
			checkGet(t, b[:k:k], api.Span{}, 0, api.ErrShort)
		}
	}
	if tried < 8 {
		t.Errorf("%d tried alone", tried)
	}
}

// badPart are bytes of a part that has an error.
type badPart struct {
	b    string
	want api.Errno
}

// partBytes are a span's parts, each by itself.
func partBytes(s api.Span) []string {
	var out []string
	for _, p := range numberParts() {
		out = append(out, string(vint.Put(nil, *p.of(&s))))
	}
	for _, p := range textParts() {
		out = append(out, string(vint.PutText(nil, *p.of(&s))))
	}
	return out
}

// P3.1, C2 and P2: a part that vint.Get, or GetText, has an error of tells it, in each place, whatever is behind it, and although the parts ahead of it are not right.
func TestGetFirstError(t *testing.T) {
	forms := []badPart{
		{"\x80\x00", api.ErrForm}, {"\xff\x80\x00", api.ErrForm}, {"\x81\x80\x80\x80\x80\x80\x40", api.ErrForm}, {"\xff\xff\xff\xff\xff\xff\x7f", api.ErrForm}, {"\x80\x80\x80\x80\x80\x80\x80", api.ErrForm},
	}
	shorts := []badPart{{"", api.ErrShort}, {"\x80", api.ErrShort}, {"\xff\xff\xff\xff\xff\xff", api.ErrShort}}
	textForms := []badPart{{"\x21" + strings.Repeat("t", 33), api.ErrForm}, {"\x21", api.ErrForm}, {"\x80\x01", api.ErrForm}}
	textShorts := []badPart{{"\x01", api.ErrShort}, {"\x20" + strings.Repeat("t", 31), api.ErrShort}}
	for _, ahead := range [][]string{partBytes(plain()), {"\x00", "\x00", "\x00", "\x80\x80\x80\x80\x80\x80\x40", "\x01", "\x00", "\x00"}} {
		for i := range ahead {
			bad := append(forms[:len(forms):len(forms)], shorts...)
			if i >= 5 {
				bad = append(append(bad, textForms...), textShorts...)
			}
			for _, x := range bad {
				b := strings.Join(ahead[:i], "") + x.b
				checkGet(t, []byte(b), api.Span{}, 0, x.want)
				if x.want == api.ErrForm { // a part that is too short is the last one
					checkGet(t, []byte(b+strings.Join(ahead[i+1:], "")), api.Span{}, 0, api.ErrForm)
					checkGet(t, []byte(b+"\x80"), api.Span{}, 0, api.ErrForm)
				}
			}
		}
	}
}

// eachParts calls do with all that the parts' bytes, each one of some, may be together.
func eachParts(parts [][]string, do func(b []byte)) {
	if len(parts) == 0 {
		do(nil)
		return
	}
	eachParts(parts[1:], func(behind []byte) {
		for _, p := range parts[0] {
			do(append([]byte(p), behind...))
		}
	})
}

// P3.1, C2: Get is what the words say, of parts that are right, wrong or broken, in every mixture. P1: none panics. P3.2: what is got is right, and has the bytes.
func TestGetAll(t *testing.T) {
	numbers := []string{"\x00", "\x01", "\x80\x80\x80\x80\x80\x80\x40", "\x80\x00", "\x80", ""}
	texts := []string{"\x00", "\x01s", "\x20" + strings.Repeat("t", 32), "\x21" + strings.Repeat("t", 33), "\x03s", "\x80\x00", ""}
	found := 0
	eachParts([][]string{numbers, numbers, numbers, numbers, numbers, texts, texts}, func(b []byte) {
		s, size, e := plainGet(b)
		checkGet(t, b, s, size, e)
		if e == api.OK {
			found++
			checkBack(t, b)
		}
	})
	if found < 100 {
		t.Errorf("%d right ones alone", found)
	}
}

// checkBack looks whether what b gives is right, and has the bytes that it was got of.
func checkBack(t *testing.T, b []byte) {
	t.Helper()
	if s, size, e := Get(b); e == api.OK && (!Right(s) || !bytes.Equal(Put(nil, s), b[:size])) {
		t.Fatalf("Get(%x) = %#v, %d, but its bytes are %x", b, s, size, Put(nil, s))
	}
}

// P1, P3.1 and P3.2 of any bytes: right ones in which one or two have been changed for any others.
func TestGetChanged(t *testing.T) {
	check := func(b []byte) {
		s, size, e := plainGet(b)
		checkGet(t, b, s, size, e)
		checkBack(t, b)
	}
	whole := append(Put(nil, plain()), 0, 0)
	for i := range whole {
		for c := range 256 {
			b := bytes.Clone(whole)
			b[i] = byte(c)
			check(b)
			for j := range i {
				for _, d := range []byte{0, 1, 0x20, 0x21, 0x40, 0x7f, 0x80, 0xff} {
					b[j] = d
					check(b)
					b[j] = whole[j]
				}
			}
		}
	}
}

// FuzzGet holds Get to the plain words at whatever bytes there are.
func FuzzGet(f *testing.F) {
	for _, s := range rights() {
		f.Add(raw(s))
	}
	f.Fuzz(func(t *testing.T, b []byte) {
		before := string(b)
		s, size, e := plainGet(b)
		checkGet(t, b, s, size, e)
		checkBack(t, b)
		if string(b) != before {
			t.Errorf("the bytes have changed: %x", b)
		}
	})
}

// P3: what is handed in is not changed, nor its spare room; what comes out is new memory, its spare room too; the same comes of the same.
func TestNewMemory(t *testing.T) {
	wrong := plain()
	wrong.Id = 0
	for name, s := range map[string]api.Span{"right": plain(), "long": rights()[2], "wrong": wrong, "zero": {}} {
		for _, n := range []int{0, 1, 3, 50} {
			whole := bytes.Repeat([]byte{0xa5}, 300)
			first := Put(whole[:n], s)
			want := string(first)
			for i := range first[:cap(first)] {
				first[:cap(first)][i] = 0x11
			}
			if !bytes.Equal(whole, bytes.Repeat([]byte{0xa5}, 300)) {
				t.Errorf("%s behind %d: the argument, or its spare room, has changed", name, n)
			}
			if again := string(Put(whole[:n], s)); again != want || again[:n] != string(whole[:n]) {
				t.Errorf("%s behind %d: %x, then %x", name, n, want, again)
			}
			if strings.Trim(string(first), "\x11") != "" {
				t.Errorf("%s behind %d: an answer has changed: %x", name, n, first)
			}
		}
	}
}

// P3: Get reads alone, and a span that was got stays as it is when its bytes change; an error leaves nothing behind for the next call.
func TestReadAlone(t *testing.T) {
	b := Put(nil, plain())
	before := string(b)
	s, _, _ := Get(b)
	Get(b[:4])
	Get(b[1:])
	if string(b) != before {
		t.Errorf("the bytes have changed: %x", b)
	}
	checkGet(t, b, plain(), len(b), api.OK)
	clear(b)
	if s != plain() {
		t.Errorf("the span has changed: %#v", s)
	}
}

// Ways: an error of the reader is wrapped in where the part begins, stays the first one, and is found again.
func TestFault(t *testing.T) {
	for b, want := range map[string]fault{
		"": {0, api.ErrShort}, "\x05\x80": {1, api.ErrShort}, "\x05\x80\x00": {1, api.ErrForm}, "\x05\x06\x07\xac\x02\x02\x21": {6, api.ErrForm},
		"\x05\x06\x07\xac\x02\x02\x01a\x02b": {8, api.ErrShort}, "\x00\x06\x07\xac\x02\x02\x01a\x02bc": {0, api.ErrForm}, "\x05\x80\x00\x80": {1, api.ErrForm},
	} {
		r := &reader{b: []byte(b)}
		takeSpan(r)
		var got fault
		var e api.Errno
		if !errors.As(r.err, &got) || got != want || !errors.As(r.err, &e) || e != want.err {
			t.Errorf("%x: %v, want %v", b, r.err, want)
		}
	}
	first := fault{1, api.ErrForm}
	r := &reader{b: []byte("\x05\x01a"), at: 1, err: first}
	if n, s := r.number(), r.text(); n != 0 || s != "" || r.at != 1 || r.err != error(first) {
		t.Errorf("behind an error: %d, %q, at %d, %v", n, s, r.at, r.err)
	}
	if got := (fault{3, api.ErrForm}).Error(); got != "span: byte 3: turntable: error 12" {
		t.Error(got)
	}
}
