package frame

import (
	"bytes"
	"encoding/binary"
	"encoding/hex"
	"math"
	"slices"
	"testing"

	"turntable/api"
)

const maxBody = 3600

// stir is n bytes that hang on seed alone.
func stir(seed uint32, n int) []byte {
	out := make([]byte, n)
	for i := range out {
		seed = seed*1664525 + 1013904223
		out[i] = byte(seed >> 24)
	}
	return out
}

// plainFrame is the frame of a body.
func plainFrame(b []byte) []byte { return append(binary.AppendUvarint(nil, uint64(len(b))), b...) }

// plainPut is what L1 says of Put.
func plainPut(b []byte) []byte {
	if len(b) == 0 || len(b) > 3600 {
		return nil
	}
	return plainFrame(b)
}

// plainFirst looks whether b begins with the frame of any of the bodies that may stand there.
func plainFirst(b []byte) (api.Part, bool) {
	var room [10]byte
	for n := 1; n <= 3600 && n <= len(b); n++ {
		head := binary.AppendUvarint(room[:0], uint64(n))
		if bytes.HasPrefix(b, head) && len(head)+n <= len(b) {
			return api.Part{Size: len(head) + n, B: b[len(head) : len(head)+n]}, true
		}
	}
	return api.Part{}, false
}

// plainAll is what L2 says of All.
func plainAll(b []byte) ([]api.Part, int) {
	var out []api.Part
	at := 0
	for {
		p, is := plainFirst(b[at:])
		if !is {
			return out, at
		}
		p.At = at
		out = append(out, p)
		at += p.Size
	}
}

// row is frames, one behind the other, of bodies of these lengths, of bytes of all sorts; and what All should tell of them.
func row(sizes ...int) ([]byte, []api.Part) {
	var b []byte
	var l []api.Part
	for i, n := range sizes {
		body := stir(uint32(n*17+i), n)
		f := plainFrame(body)
		l = append(l, api.Part{At: len(b), Size: len(f), B: body})
		b = append(b, f...)
	}
	return b, l
}

// end is where the last one ends.
func end(l []api.Part) int {
	if len(l) == 0 {
		return 0
	}
	return l[len(l)-1].At + l[len(l)-1].Size
}

// none are bytes that begin with no frame.
func none() [][]byte {
	var out [][]byte
	for _, s := range []string{
		"",                               // no number
		"00", "0001", "000000", "000161", // of no byte
		"80", "ff", "c8", "8080", "ffff", "80808080", "ffffffffffff", // a number that does not end
		"8000", "8100", "81006161", "c80000", "ff00", "808000", "81808080808000", "c8810061", "8080808080808000", // a number that is not as short as it may be
		"80808080808080", "ffffffffffffff", "8080808080808080", "81808080808080016161", "ffffffffffffffff7f", "80808080808080808001", "ffffffffffffffffffff01", // no number in seven bytes
		"81808080808041", "ffffffffffff7f", // a number that is too large
		"01", "02", "0261", "0361", "7f", "7f61", "8001", "800161", "c801", "c80161", "901c", "901c6161", "8f1c", // fewer bytes than it tells
		"911c", "921c", "9f1c", "a01c", "ff1f", "8020", "8040", "807f", "ff7f", "808001", "838001", "808004", "ffff03", "808080800861", "8180808010", "8180808080808001", "80808080808040", "8380808080804061", // more than a body may have
	} {
		b, err := hex.DecodeString(s)
		if err != nil {
			panic(err)
		}
		out = append(out, b)
	}
	long := make([]byte, 70000)
	for _, n := range []uint64{0, 3601, 3602, 3728, 4095, 4096, 1<<12 + 1, 1<<13 + 1, 16383, 16384, 16385, 65535, 65536, 65537, 69000} {
		out = append(out, append(binary.AppendUvarint(nil, n), long...))
	}
	for _, n := range []uint64{1<<16 + 3, 1<<20 + 3, 1<<31 - 1, 1 << 31, 1<<31 + 3, 1<<32 - 1, 1 << 32, 1<<32 + 1, 1<<32 + 3, 1<<32 + 3600, 1<<40 + 3, 1<<48 - 1, 1 << 48, 1<<48 + 1, 1<<48 + 3, 1<<49 + 3, 1<<63 - 1, 1 << 63, 1<<63 + 3, math.MaxUint64} {
		out = append(out, append(binary.AppendUvarint(nil, n), long[:5000]...))
	}
	for _, n := range []int{1, 2, 126, 127, 128, 129, 255, 256, 3599, 3600} {
		f := plainFrame(stir(uint32(n), n))
		out = append(out, f[:len(f)-1], f[:len(f)-n], f[:len(f)-(n+1)/2])
	}
	return out
}

// eachBytes calls do with all bytes of the alphabet, up to so many.
func eachBytes(alphabet string, most int, do func(b []byte)) {
	var grow func(b []byte)
	grow = func(b []byte) {
		do(b)
		if len(b) == most {
			return
		}
		for i := range len(alphabet) {
			grow(append(slices.Clone(b), alphabet[i]))
		}
	}
	grow(nil)
}

// eachRow calls do with all rows of the choices, up to so long.
func eachRow(choices []int, most int, do func(sizes []int)) {
	var grow func(sizes []int)
	grow = func(sizes []int) {
		do(sizes)
		if len(sizes) == most {
			return
		}
		for _, n := range choices {
			grow(append(slices.Clone(sizes), n))
		}
	}
	grow(nil)
}

func same(a, b []api.Part) bool {
	return slices.EqualFunc(a, b, func(x, y api.Part) bool {
		return x.At == y.At && x.Size == y.Size && bytes.Equal(x.B, y.B)
	})
}

// brief is at most 40 of these bytes, to be told.
func brief(b []byte) string { return hex.EncodeToString(b[:min(len(b), 40)]) }

// checkAll holds All to what it should be.
func checkAll(t *testing.T, b []byte, want []api.Part, at int) {
	t.Helper()
	if l, n := All(b); !same(l, want) || n != at {
		t.Fatalf("All(%s, %d bytes) = %d parts, %d; want %d, %d", brief(b), len(b), len(l), n, len(want), at)
	}
}

// checkPlain holds All to the plain words.
func checkPlain(t *testing.T, b []byte) {
	t.Helper()
	l, at := plainAll(b)
	checkAll(t, b, l, at)
}

// P12.1: the chapter's example, and frames whose bytes are known.
func TestKnown(t *testing.T) {
	if Size(200) != 202 {
		t.Errorf("Size(200) = %d", Size(200))
	}
	for _, x := range []struct {
		body []byte
		head string
	}{
		{[]byte("a"), "01"}, {[]byte("ab"), "02"}, {[]byte{0}, "01"}, {[]byte{0x80, 0}, "02"},
		{stir(1, 127), "7f"}, {stir(2, 128), "8001"}, {stir(3, 200), "c801"}, {stir(4, 3599), "8f1c"}, {stir(5, 3600), "901c"},
	} {
		if got, want := hex.EncodeToString(Put(x.body)), x.head+hex.EncodeToString(x.body); got != want {
			t.Errorf("Put of %d bytes = %.20s..; want %.20s..", len(x.body), got, want)
		}
	}
	b := []byte("\x02ab\x01c\x03\x01d\x00\x04")
	checkAll(t, b, []api.Part{{At: 0, Size: 3, B: []byte("ab")}, {At: 3, Size: 2, B: []byte("c")}, {At: 5, Size: 4, B: []byte("\x01d\x00")}}, 9)
}

// P12.1, L1: Size, of each number that is a body's, of those beside them, and of such as have the same last bits.
func TestSize(t *testing.T) {
	for n := -5000; n <= 10000; n++ {
		want := 0
		switch {
		case n >= 1 && n <= 127:
			want = n + 1
		case n >= 128 && n <= 3600:
			want = n + 2
		}
		if got := Size(n); got != want {
			t.Fatalf("Size(%d) = %d; want %d", n, got, want)
		}
	}
	wrong := []int{math.MinInt, math.MinInt + 1, math.MaxInt - 1, math.MaxInt, 16384, 1<<48 - 1, 1 << 48, 1<<48 + 1, 1 << 62}
	for _, bit := range []int{12, 13, 14, 15, 16, 20, 31, 32, 33, 47, 48, 49, 56, 62} {
		for _, n := range []int{0, 1, 2, 127, 128, 200, 3600} {
			wrong = append(wrong, 1<<bit+n, -1<<bit+n, -1<<bit-n, math.MinInt+n, -n)
		}
	}
	for _, n := range wrong {
		if n >= 1 && n <= maxBody {
			continue
		}
		if got := Size(n); got != 0 {
			t.Errorf("Size(%d) = %d; want 0", n, got)
		}
	}
}

// P12.1, L1: Put, of bodies of every length, and of none; it is as long as Size tells.
func TestPut(t *testing.T) {
	for n := range 4000 {
		for _, b := range [][]byte{stir(uint32(n), n), make([]byte, n), bytes.Repeat([]byte{0xff}, n)} {
			got := Put(b)
			if !bytes.Equal(got, plainPut(b)) || len(got) != Size(n) {
				t.Fatalf("Put of %d bytes = %s.., %d bytes; Size is %d", n, brief(got), len(got), Size(n))
			}
		}
	}
	for _, n := range []int{8191, 8192, 16383, 16384, 16385, 65535, 65536, 65537, 65536 + 128, 65536 + 3600, 1 << 20, 1<<20 + 3} {
		if got := Put(make([]byte, n)); len(got) != 0 {
			t.Errorf("Put of %d bytes = %s.., %d bytes", n, brief(got), len(got))
		}
	}
	if len(Put(nil)) != 0 || len(Put([]byte{})) != 0 {
		t.Error("Put of no byte is not nothing")
	}
}

// P12.1, L2: of bytes that begin with no frame none is told, and 0.
func TestAllNone(t *testing.T) {
	for _, b := range append(none(), nil) {
		checkAll(t, b, nil, 0)
		checkPlain(t, b)
	}
}

// P12.1, L2: of each number, with as many bytes behind it as it tells, and with more that begin with no frame, there is a frame just where it is a body's.
func TestAllNumbers(t *testing.T) {
	rest := stir(9, 17000)
	for n := range 17000 {
		b := append(binary.AppendUvarint(nil, uint64(n)), rest[:n]...)
		var want []api.Part
		if n >= 1 && n <= maxBody {
			want = []api.Part{{Size: len(b), B: rest[:n]}}
		}
		checkAll(t, b, want, end(want))
		checkAll(t, append(b, make([]byte, 3700)...), want, end(want))
	}
}

// P12.1, L2: a number that is not as short as it may be begins no frame, however many bytes it takes more.
func TestAllNotShort(t *testing.T) {
	for _, n := range []int{1, 2, 3, 127, 128, 200, 3600} {
		body := stir(uint32(n), n)
		for more := 1; more <= 9; more++ {
			head := binary.AppendUvarint(nil, uint64(n))
			for range more {
				head[len(head)-1] |= 0x80
				head = append(head, 0)
			}
			ahead, l := row(5, 200)
			checkAll(t, slices.Concat(head, body), nil, 0)
			checkAll(t, slices.Concat(ahead, head, body), l, len(ahead))
		}
	}
}

// P12.1, L2: all bytes of some alphabets, up to some length, against the plain words.
func TestAllShort(t *testing.T) {
	check := func(b []byte) { checkPlain(t, b) }
	eachBytes("\x00\x01\x02\x03\x80\x81", 6, check)
	eachBytes("\x00\x01\x02\x80", 8, check)
	eachBytes("\x01\x02", 13, check)
	var all []byte
	for i := range 256 {
		all = append(all, byte(i))
	}
	eachBytes(string(all), 2, check)
}

// P12.1, L2: all heads of two bytes, with bytes behind them as many as it needs, one fewer, and one more.
func TestAllHeads(t *testing.T) {
	rest := bytes.Repeat([]byte{0}, 17000)
	for high := range 256 {
		for low := range 256 {
			n := low&0x7f | high<<7
			is := low >= 0x80 && high >= 1 && n <= maxBody
			if low < 0x80 {
				continue
			}
			for _, more := range []int{-1, 0, 1} {
				b := append([]byte{byte(low), byte(high)}, rest[:max(min(n, 16000)+more, 0)]...)
				var want []api.Part
				if is && more >= 0 {
					want = []api.Part{{Size: 2 + n, B: rest[:n]}}
				}
				checkAll(t, b, want, end(want))
			}
		}
	}
}

// P12.2: rows of frames of all lengths are all told, in order, whatever stands behind them that is none.
func TestRows(t *testing.T) {
	behind := none()
	at := 0
	check := func(sizes []int) {
		b, l := row(sizes...)
		checkAll(t, b, l, len(b))
		for range 3 {
			at = (at + 1) % len(behind)
			checkAll(t, slices.Concat(b, behind[at]), l, len(b))
		}
	}
	eachRow([]int{1, 2, 3, 127, 128, 129, 255, 3600}, 4, check)
	eachRow([]int{1, 2, 128}, 7, check)
}

// P12.2: each of the things that are none, behind each of some rows; and what stands behind it is not told.
func TestBehind(t *testing.T) {
	for _, sizes := range [][]int{{1}, {2, 1}, {127}, {128, 127}, {3600}, {3600, 1, 3600}, {5, 128, 5, 200, 1, 1, 1}} {
		b, l := row(sizes...)
		for _, x := range none() {
			checkAll(t, slices.Concat(b, x), l, len(b))
		}
		// One byte of 0, or a number that is too large, hides all that is behind it.
		for _, x := range []string{"\x00", "\x80\x00", "\x91\x1c", "\xff\xff\xff\xff\xff\xff\xff", "\x81\x80\x80\x80\x80\x80\x41"} {
			checkAll(t, slices.Concat(b, []byte(x), b, b), l, len(b))
		}
	}
}

// P12.2: bodies that are frames themselves, or begin as one does, are one frame each.
func TestWithin(t *testing.T) {
	body := []byte("\x01")
	for len(Put(body)) <= maxBody && len(Put(body)) != 0 {
		f := Put(body)
		checkAll(t, f, []api.Part{{Size: len(f), B: body}}, len(f))
		l, at := All(slices.Concat(f, f))
		if len(l) != 2 || at != 2*len(f) || !bytes.Equal(l[1].B, body) || l[1].At != len(f) {
			t.Fatalf("of two frames of %d bytes: %d, %d", len(f), len(l), at)
		}
		body = f
	}
	for _, n := range []int{1, 127, 128, 3600} {
		for _, c := range []byte{0, 1, 2, 0x7f, 0x80, 0xff} {
			b := bytes.Repeat([]byte{c}, n)
			f := Put(b)
			checkAll(t, slices.Concat(f, f, f), []api.Part{{Size: len(f), B: b}, {At: len(f), Size: len(f), B: b}, {At: 2 * len(f), Size: len(f), B: b}}, 3*len(f))
		}
	}
}

// P12.2: what is put is all told, and has the same frames; of one frame more all are told that were, and that one.
func TestThereAndBack(t *testing.T) {
	var b []byte
	var want []api.Part
	for i := range 300 {
		n := (i*i*13 + i) % 3600
		if i%3 > 0 {
			n %= 140
		}
		body := stir(uint32(i), n+1)
		f := Put(body)
		want = append(want, api.Part{At: len(b), Size: Size(len(body)), B: body})
		b = append(b, f...)
		checkAll(t, b, want, len(b))
	}
	l, _ := All(b)
	var again []byte
	for _, p := range l {
		if p.At != len(again) || p.Size != len(Put(p.B)) {
			t.Fatalf("at %d: %d, %d", len(again), p.At, p.Size)
		}
		again = append(again, Put(p.B)...)
	}
	if !bytes.Equal(again, b) {
		t.Error("what was told has other frames")
	}
}

// P12.2: very many frames, and then one of each length.
func TestMany(t *testing.T) {
	const many = 1 << 20
	b := bytes.Repeat([]byte("\x01x"), many)
	l, at := All(append(b, 0x80))
	if len(l) != many || at != 2*many {
		t.Fatalf("%d, %d", len(l), at)
	}
	for i, p := range l {
		if p.At != 2*i || p.Size != 2 || string(p.B) != "x" {
			t.Fatalf("the %d-th is %v", i, p)
		}
	}
	var sizes []int
	for n := range maxBody {
		sizes = append(sizes, n+1)
	}
	each, want := row(sizes...)
	checkAll(t, each, want, len(each))
}

// P12.3: of bytes that are cut anywhere the whole frames are told, and where the first one begins that is not whole.
func TestCut(t *testing.T) {
	check := func(sizes []int) {
		b, l := row(sizes...)
		for n := range len(b) + 1 {
			whole := slices.DeleteFunc(slices.Clone(l), func(p api.Part) bool { return p.At+p.Size > n })
			checkAll(t, b[:n], whole, end(whole))
		}
	}
	eachRow([]int{1, 2, 127, 128, 130}, 3, check)
	eachRow([]int{1, 2, 3}, 6, check)
	check([]int{3600, 1, 3599, 128, 127, 3600})
	check([]int{200, 199, 384, 1, 3600, 1})
}

// P12.3, P12.1: one bit, or one byte, that turned in a head hides no frame ahead of it.
func TestTurned(t *testing.T) {
	for _, sizes := range [][]int{{1, 2, 3, 1, 2}, {130, 1, 128, 5, 127, 2}, {3600, 3, 3600, 200}} {
		b, l := row(sizes...)
		for at := range b {
			if len(b) > 1000 && at%97 > 2 && !near(l, at) {
				continue
			}
			for bit := range 8 {
				turned := slices.Clone(b)
				turned[at] ^= 1 << bit
				checkPlain(t, turned)
				got, n := All(turned)
				ahead := slices.DeleteFunc(slices.Clone(l), func(p api.Part) bool { return p.At+p.Size > at })
				if n < end(ahead) || len(got) < len(ahead) || !same(got[:len(ahead)], ahead) {
					t.Fatalf("byte %d, bit %d: %d parts, %d; ahead of it are %d", at, bit, len(got), n, len(ahead))
				}
			}
		}
	}
}

// near: is a byte one of those with which a frame begins?
func near(l []api.Part, at int) bool {
	return slices.ContainsFunc(l, func(p api.Part) bool { return at >= p.At && at < p.At+4 })
}

// P1, P12.1: many bytes of all sorts, of which some begin with frames, against the plain words.
func TestStirred(t *testing.T) {
	for seed := range uint32(3000) {
		b := stir(seed, int(seed%700))
		for i := range b {
			// Few high bytes, that there be frames.
			if b[i]%8 > 0 {
				b[i] %= 32
			}
		}
		checkPlain(t, b)
	}
}

// P3: what is handed in is not changed, nor its spare room, whatever is done with what is told.
func TestMemoryIn(t *testing.T) {
	frames, _ := row(5, 200, 1, 3600, 127, 128)
	for _, in := range [][]byte{nil, []byte("a"), stir(1, 127), stir(2, 128), stir(3, 3600), stir(4, 3601), []byte("\x02ab\x01c\x05d"), frames, append(slices.Clone(frames), 0x80)} {
		whole := append(slices.Clone(in), bytes.Repeat([]byte{0x5a}, 40)...)
		before := slices.Clone(whole)
		given := whole[:len(in)]
		f := Put(given)
		clear(f[:cap(f)])
		l, _ := All(given)
		for _, p := range l {
			clear(p.B[:cap(p.B)])
		}
		clear(l[:cap(l)])
		if !bytes.Equal(whole, before) {
			t.Fatalf("of %d bytes some were changed", len(in))
		}
	}
}

// P3: what is handed in is not kept: what was told stays as it is when that changes.
func TestMemoryKept(t *testing.T) {
	b, want := row(5, 200, 1, 3600, 127, 128)
	l, at := All(b)
	clear(b)
	if !same(l, want) || at != len(b) {
		t.Error("All keeps what it is given")
	}
	for _, n := range []int{1, 127, 128, 3600} {
		body := stir(uint32(n), n)
		f := Put(body)
		before := plainPut(body)
		clear(body)
		if !bytes.Equal(f, before) {
			t.Errorf("Put keeps %d bytes", n)
		}
	}
}

// P3: what is told is one's own, its spare room too: no two bodies share any, and no two answers.
func TestMemoryOut(t *testing.T) {
	b, want := row(1, 2, 5, 200, 1, 3600, 127, 128, 1)
	other, at := All(b)
	for i := range want {
		l, n := All(b)
		if n != at {
			t.Fatalf("All = %d, and then %d", at, n)
		}
		for j := range l[i].B[:cap(l[i].B)] {
			l[i].B[:cap(l[i].B)][j] ^= 0xff
		}
		l[i].B = append(l[i].B, bytes.Repeat([]byte{0x77}, 64)...)
		l = append(l[:i], l[i+1:]...)
		if !same(l, slices.Delete(slices.Clone(want), i, i+1)) {
			t.Fatalf("the body %d shares memory with another one", i)
		}
		clear(l[:cap(l)])
	}
	if !same(other, want) {
		t.Error("two answers share memory")
	}
	for _, n := range []int{1, 127, 128, 3600} {
		body := stir(uint32(n), n)
		f, g := Put(body), Put(body)
		clear(f[:cap(f)])
		if !bytes.Equal(g, plainPut(body)) {
			t.Errorf("two frames of %d bytes share memory", n)
		}
	}
	checkAll(t, b, want, len(b))
}

// P3: an answer hangs on the bytes alone, not on what was asked ahead.
func TestAgain(t *testing.T) {
	b, want := row(5, 200, 1)
	for _, x := range none() {
		All(x)
		Put(x)
		Size(len(x))
		checkAll(t, b, want, len(b))
		if got := Put(b); !bytes.Equal(got, plainPut(b)) || len(got) != Size(len(b)) {
			t.Fatalf("Put = %s..", brief(got))
		}
	}
}

// P12.1 to P12.3: any bytes, against the plain words.
func FuzzFrame(f *testing.F) {
	f.Add([]byte("\x02ab\x01c\x02d"))
	f.Add([]byte("\x80\x01"))
	f.Add([]byte("\x91\x1c"))
	b, _ := row(1, 128, 3)
	f.Add(b)
	f.Fuzz(func(t *testing.T, b []byte) {
		checkPlain(t, b)
		got := Put(b)
		if !bytes.Equal(got, plainPut(b)) || len(got) != Size(len(b)) {
			t.Fatalf("Put(%x) = %x", b, got)
		}
		l, at := All(b)
		var again []byte
		for _, p := range l {
			again = append(again, Put(p.B)...)
		}
		if !bytes.Equal(again, b[:at]) {
			t.Fatalf("All(%x) = %v, %d", b, l, at)
		}
		if len(got) > 0 {
			checkAll(t, slices.Concat(b[:at], got), append(l, api.Part{At: at, Size: len(got), B: b}), at+len(got))
		}
	})
}
