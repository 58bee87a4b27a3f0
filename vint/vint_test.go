package vint

import (
	"bytes"
	"errors"
	"math"
	"strings"
	"testing"

	"turntable/api"
)

// numbers are all small ones, and those around every power of two up to MaxNumber: wherever a byte more is needed, or a bit more.
func numbers() []int64 {
	var out []int64
	for n := int64(0); n < 1<<15; n++ {
		out = append(out, n)
	}
	for p := int64(1 << 15); p <= api.MaxNumber; p <<= 1 {
		for d := int64(-3); d <= 3; d++ {
			if n := p + d; n <= api.MaxNumber {
				out = append(out, n)
			}
		}
	}
	return append(out, 0x0123456789ab, 0xfedcba987654, 0xaaaaaaaaaaaa, 0x555555555555)
}

func noNumbers() []int64 {
	return []int64{-1, -2, -127, -128, -api.MaxNumber, math.MinInt64, math.MinInt64 + 1, api.MaxNumber + 1, api.MaxNumber + 128, 1 << 49, 1 << 56, 1 << 62, math.MaxInt64}
}

// plainBytes are n's bytes, by division, as the chapter's words tell them.
func plainBytes(n int64) []byte {
	out := []byte{byte(n % 128)}
	for n /= 128; n > 0; n /= 128 {
		out[len(out)-1] += 128
		out = append(out, byte(n%128))
	}
	return out
}

// plainGet is what A1 says of Get, word for word.
func plainGet(b []byte) (int64, int, api.Errno) {
	end := 0
	for end < len(b) && end < 7 && b[end] >= 128 {
		end++
	}
	switch {
	case end == 7:
		return 0, 0, api.ErrForm
	case end == len(b):
		return 0, 0, api.ErrShort
	}
	n, factor := int64(0), int64(1)
	for _, c := range b[:end+1] {
		n += int64(c%128) * factor
		factor *= 128
	}
	if n > api.MaxNumber || end > 0 && b[end] == 0 {
		return 0, 0, api.ErrForm
	}
	return n, end + 1, api.OK
}

// eachBytes calls do with all bytes of the alphabet, up to a length.
func eachBytes(alphabet string, most int, do func(b []byte)) {
	var walk func(b []byte)
	walk = func(b []byte) {
		do(b)
		if len(b) == most {
			return
		}
		for i := range len(alphabet) {
			walk(append(b[:len(b):len(b)], alphabet[i]))
		}
	}
	walk([]byte{})
}

func checkGet(t *testing.T, b []byte, n int64, size int, e api.Errno) {
	t.Helper()
	if gn, gs, ge := Get(b); gn != n || gs != size || ge != e {
		t.Fatalf("Get(%x) = %d, %d, %d; want %d, %d, %d", b, gn, gs, int(ge), n, size, int(e))
	}
}

func checkGetText(t *testing.T, b []byte, s string, size int, e api.Errno) {
	t.Helper()
	if gs, gn, ge := GetText(b); gs != s || gn != size || ge != e {
		t.Fatalf("GetText(%x) = %q, %d, %d; want %q, %d, %d", b, gs, gn, int(ge), s, size, int(e))
	}
}

// P1.1, A1: Size and Put, at the numbers whose bytes are known by hand.
func TestKnownNumbers(t *testing.T) {
	for _, x := range []struct {
		n int64
		b string
	}{
		{0, "\x00"}, {1, "\x01"}, {127, "\x7f"}, {128, "\x80\x01"}, {129, "\x81\x01"}, {300, "\xac\x02"}, {16383, "\xff\x7f"}, {16384, "\x80\x80\x01"},
		{1<<21 - 1, "\xff\xff\x7f"}, {1 << 21, "\x80\x80\x80\x01"}, {1<<28 - 1, "\xff\xff\xff\x7f"}, {1 << 28, "\x80\x80\x80\x80\x01"},
		{1<<35 - 1, "\xff\xff\xff\xff\x7f"}, {1 << 35, "\x80\x80\x80\x80\x80\x01"}, {1<<42 - 1, "\xff\xff\xff\xff\xff\x7f"}, {1 << 42, "\x80\x80\x80\x80\x80\x80\x01"},
		{api.MaxNumber - 1, "\xff\xff\xff\xff\xff\xff\x3f"}, {api.MaxNumber, "\x80\x80\x80\x80\x80\x80\x40"},
	} {
		if got := Put(nil, x.n); string(got) != x.b {
			t.Errorf("Put(nil, %d) = %x, want %x", x.n, got, x.b)
		}
		if got := Size(x.n); got != len(x.b) {
			t.Errorf("Size(%d) = %d, want %d", x.n, got, len(x.b))
		}
		checkGet(t, []byte(x.b), x.n, len(x.b), api.OK)
	}
}

// P1.1, A1: Size and Put agree with the plain rule, behind any bytes.
func TestPut(t *testing.T) {
	for _, n := range numbers() {
		want := plainBytes(n)
		if got := Size(n); got != len(want) {
			t.Fatalf("Size(%d) = %d, want %d", n, got, len(want))
		}
		for _, ahead := range []string{"", "\x80", "ab\x00"} {
			if got := Put([]byte(ahead), n); string(got) != ahead+string(want) {
				t.Fatalf("Put(%x, %d) = %x", ahead, n, got)
			}
		}
	}
}

// P1.1, A1: what is no number has no size, and is not put.
func TestNoNumber(t *testing.T) {
	for _, n := range noNumbers() {
		if got := Size(n); got != 0 {
			t.Errorf("Size(%d) = %d", n, got)
		}
		for _, ahead := range []string{"", "ab\x80"} {
			if got := Put([]byte(ahead), n); string(got) != ahead {
				t.Errorf("Put(%x, %d) = %x", ahead, n, got)
			}
		}
	}
}

// P1.1, A1 and P2: Get's errors, each at its edge; all else is zero beside them.
func TestGetErrors(t *testing.T) {
	high := strings.Repeat("\x80", 9)
	full := strings.Repeat("\xff", 9)
	for k := range 7 {
		checkGet(t, []byte(high[:k]), 0, 0, api.ErrShort)
		checkGet(t, []byte(full[:k]), 0, 0, api.ErrShort)
	}
	for k := 7; k <= 9; k++ {
		checkGet(t, []byte(high[:k]), 0, 0, api.ErrForm)
		checkGet(t, []byte(full[:k]), 0, 0, api.ErrForm)
		checkGet(t, []byte(high[:k]+"\x00"), 0, 0, api.ErrForm)
		checkGet(t, []byte(high[:k]+"\x01"), 0, 0, api.ErrForm)
	}
	for _, s := range []string{"\x80\x80\x80\x80\x80\x80\x81", "\x80\x80\x80\x80\x80\x80\xc0", "\xff\xff\xff\xff\xff\xff\xbf"} { // groups of a number, but none is the last
		checkGet(t, []byte(s), 0, 0, api.ErrForm)
		checkGet(t, []byte(s+"\x00"), 0, 0, api.ErrForm)
	}
	for k := 1; k < 7; k++ { // a last byte of 0 behind others
		checkGet(t, []byte(high[:k]+"\x00"), 0, 0, api.ErrForm)
		checkGet(t, []byte(full[:k]+"\x00\x01"), 0, 0, api.ErrForm)
	}
	for _, s := range []string{"\x81\x80\x80\x80\x80\x80\x40", "\x80\x80\x80\x80\x80\x81\x40", "\x80\x80\x80\x80\x80\x80\x41", "\xff\xff\xff\xff\xff\xff\x7f"} { // too large
		checkGet(t, []byte(s), 0, 0, api.ErrForm)
	}
	checkGet(t, nil, 0, 0, api.ErrShort)
	checkGet(t, []byte{0}, 0, 1, api.OK)
	checkGet(t, []byte{0, 0}, 0, 1, api.OK)
}

// P1.1, A1: Get is what the words say, of every pair of bytes, and of all bytes up to eight that its rules tell apart. P1: none panics.
func TestGetAll(t *testing.T) {
	check := func(b []byte) {
		n, size, e := plainGet(b)
		checkGet(t, b, n, size, e)
	}
	for i := range 1 << 16 {
		check([]byte{byte(i), byte(i >> 8)})
	}
	eachBytes("\x00\x01\x40\x41\x7f\x80\x81\xff", 6, check)
	eachBytes("\x00\x40\x80\xc0\xff", 8, check)
}

// P1.2: a number is got of its bytes, whatever is behind them.
func TestThere(t *testing.T) {
	for _, n := range numbers() {
		b := Put(nil, n)
		for _, behind := range []string{"", "\x00", "\x7f", "\x80", "\xff\xff\xff\xff\xff\xff\xff\xff", "more"} {
			checkGet(t, append(b[:len(b):len(b)], behind...), n, len(b), api.OK)
		}
	}
}

// P1.2: what is got has the bytes that it was got of.
func TestBack(t *testing.T) {
	eachBytes("\x00\x01\x40\x7f\x80\xff", 7, func(b []byte) {
		n, size, e := Get(b)
		if e == api.OK && (size != Size(n) || !bytes.Equal(Put(nil, n), b[:size])) {
			t.Fatalf("Get(%x) = %d, %d, but its bytes are %x", b, n, size, Put(nil, n))
		}
	})
}

// P1.3: a number's bytes that are cut are ErrShort.
func TestCutNumber(t *testing.T) {
	for _, n := range numbers() {
		b := Put(nil, n)
		for k := range len(b) {
			checkGet(t, b[:k:k], 0, 0, api.ErrShort)
			checkGet(t, b[:k], 0, 0, api.ErrShort)
		}
	}
}

// P1.4: a number that is larger takes no fewer bytes.
func TestOrder(t *testing.T) {
	for p := int64(1); p <= api.MaxNumber; p <<= 1 {
		for n := max(p-200, 0); n < min(p+200, api.MaxNumber); n++ {
			if Size(n) > Size(n+1) || len(Put(nil, n)) > len(Put(nil, n+1)) {
				t.Fatalf("%d takes %d bytes, %d takes %d", n, Size(n), n+1, Size(n+1))
			}
		}
		if n := min(2*p, api.MaxNumber); Size(p) > Size(n) {
			t.Fatalf("%d takes %d bytes, %d takes %d", p, Size(p), n, Size(n))
		}
	}
}

// texts have every length, and every byte.
func texts() []string {
	all := make([]byte, 256)
	for i := range all {
		all[i] = byte(i)
	}
	var out []string
	for k := range api.MaxText + 1 {
		for _, at := range []int{0, 'a', 112, 0xe0 - k/2, 256 - k} {
			out = append(out, string(all[at:at+min(k, 256-at)]))
		}
		out = append(out, strings.Repeat("\x80", k), strings.Repeat("\x00", k))
	}
	return append(out, "größe", "\xff\xfe")
}

// P1.1, A2 and P1.3: a text is put behind bytes, is got whatever is behind it, and is ErrShort where it is cut.
func TestTexts(t *testing.T) {
	for _, s := range texts() {
		want := string([]byte{byte(len(s))}) + s
		for _, ahead := range []string{"", "x\x80"} {
			if got := PutText([]byte(ahead), s); string(got) != ahead+want {
				t.Fatalf("PutText(%x, %q) = %x", ahead, s, got)
			}
		}
		for _, behind := range []string{"", "\x00", "\xff", "more"} {
			checkGetText(t, []byte(want+behind), s, len(want), api.OK)
		}
		for k := range len(want) {
			checkGetText(t, []byte(want[:k]), "", 0, api.ErrShort)
			checkGetText(t, []byte(want)[:k], "", 0, api.ErrShort)
		}
	}
}

// P1.1, A2: one of more than 32 bytes is no text, and is not put.
func TestNoText(t *testing.T) {
	for _, k := range []int{33, 34, 127, 128, 160, 255, 256, 288, 1 << 16} {
		for _, ahead := range []string{"", "ab"} {
			if got := PutText([]byte(ahead), strings.Repeat("s", k)); string(got) != ahead {
				t.Errorf("PutText(%q, %d bytes) = %x", ahead, k, got)
			}
		}
	}
}

// P1.1, A2 and P2: Get's error comes first, then a number above 32, then bytes that are too few.
func TestGetTextErrors(t *testing.T) {
	rest := strings.Repeat("s", 400)
	for _, n := range []int64{33, 34, 127, 128, 300, 1 << 32, 1<<32 + 1, api.MaxNumber} {
		checkGetText(t, Put(nil, n), "", 0, api.ErrForm)
		checkGetText(t, append(Put(nil, n), rest...), "", 0, api.ErrForm)
	}
	for s, want := range map[string]api.Errno{
		"": api.ErrShort, "\x80": api.ErrShort, "\xff\xff\xff\xff\xff\xff": api.ErrShort,
		"\x80\x00" + rest: api.ErrForm, "\x82\x00ab": api.ErrForm, "\x81\x80\x80\x80\x80\x80\x40": api.ErrForm, "\x80\x80\x80\x80\x80\x80\x80": api.ErrForm,
		"\x01": api.ErrShort, "\x02a": api.ErrShort, "\x20" + rest[:31]: api.ErrShort, "\x21" + rest[:33]: api.ErrForm,
	} {
		checkGetText(t, []byte(s), "", 0, want)
	}
	checkGetText(t, nil, "", 0, api.ErrShort)
	checkGetText(t, []byte{0}, "", 1, api.OK)
}

// P1, P2: GetText holds to Get, and to the bytes behind, at all bytes that its rules tell apart.
func TestGetTextAll(t *testing.T) {
	eachBytes("\x00\x01\x02\x03\x20\x21\x80\xff", 6, func(b []byte) {
		n, size, e := plainGet(b)
		switch {
		case e != api.OK:
			checkGetText(t, b, "", 0, e)
		case n > 32:
			checkGetText(t, b, "", 0, api.ErrForm)
		case size+int(n) > len(b):
			checkGetText(t, b, "", 0, api.ErrShort)
		default:
			checkGetText(t, b, string(b[size:size+int(n)]), size+int(n), api.OK)
		}
	})
}

// P3: what is handed in is not changed, nor its spare room; what comes out is new memory, its spare room too; the same comes of the same.
func TestNewMemory(t *testing.T) {
	long := strings.Repeat("l", 33)
	for name, put := range map[string]func(b []byte) []byte{
		"number":    func(b []byte) []byte { return Put(b, api.MaxNumber) },
		"no number": func(b []byte) []byte { return Put(b, -1) },
		"too large": func(b []byte) []byte { return Put(b, api.MaxNumber+1) },
		"text":      func(b []byte) []byte { return PutText(b, "text") },
		"no bytes":  func(b []byte) []byte { return PutText(b, "") },
		"no text":   func(b []byte) []byte { return PutText(b, long) },
	} {
		for _, n := range []int{0, 1, 3, 50} {
			whole := bytes.Repeat([]byte{0xa5}, 100)
			first := put(whole[:n])
			want := string(first)
			for i := range first[:cap(first)] {
				first[:cap(first)][i] = 0x11
			}
			if !bytes.Equal(whole, bytes.Repeat([]byte{0xa5}, 100)) {
				t.Errorf("%s behind %d: the argument, or its spare room, has changed", name, n)
			}
			if again := string(put(whole[:n])); again != want || again[:n] != string(whole[:n]) {
				t.Errorf("%s behind %d: %x, then %x", name, n, want, again)
			}
		}
	}
}

// P3: Get and GetText read alone, and a text that was got stays as it is when its bytes change.
func TestReadAlone(t *testing.T) {
	b := []byte("\x04text\xac\x02")
	s, _, _ := GetText(b)
	Get(b[5:])
	if string(b) != "\x04text\xac\x02" {
		t.Errorf("the bytes have changed: %x", b)
	}
	clear(b)
	if s != "text" {
		t.Errorf("the text has changed: %q", s)
	}
}

// Ways: an error is wrapped in where it is, and found again.
func TestFault(t *testing.T) {
	for s, want := range map[string]fault{"": {0, api.ErrShort}, "\x80\x80": {2, api.ErrShort}, "\x80\x00": {1, api.ErrForm}, "\x21": {0, api.ErrForm}, "\x03ab": {3, api.ErrShort}} {
		_, _, err := text([]byte(s))
		var got fault
		if !errors.As(err, &got) || got != want || !errors.Is(err, want.err) {
			t.Errorf("text(%x): %v, want %v", s, err, want)
		}
	}
	if got := (fault{3, api.ErrForm}).Error(); got != "vint: byte 3: turntable: error 12" {
		t.Error(got)
	}
}
