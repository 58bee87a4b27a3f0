package crc

import (
	"bytes"
	"hash/crc32"
	"math"
	"strings"
	"testing"
)

// plainMore is what B1 says, bit by bit.
func plainMore(s uint32, b []byte) uint32 {
	r := s ^ 0xffffffff
	for _, c := range b {
		for bit := range 8 {
			r ^= uint32(c>>bit) & 1
			out := r & 1
			r >>= 1
			if out == 1 {
				r ^= 0x82F63B78
			}
		}
	}
	return r ^ 0xffffffff
}

// stir is n bytes that hang on seed alone.
func stir(seed uint32, n int) []byte {
	out := make([]byte, n)
	for i := range out {
		seed = seed*1664525 + 1013904223
		out[i] = byte(seed >> 24)
	}
	return out
}

// samples are of every length up to 70, and some longer ones: nothing, all zeros, all ones, and bytes of every value.
func samples() [][]byte {
	out := [][]byte{nil, {}, []byte("123456789"), stir(1, 3600), stir(2, 4096)}
	for n := range 71 {
		out = append(out, make([]byte, n), bytes.Repeat([]byte{0xff}, n), bytes.Repeat([]byte{0x80}, n), stir(uint32(n), n))
	}
	return out
}

// sums are those that a sum may go on with: any.
func sums() []uint32 {
	out := []uint32{0, 1, 2, 0x7fffffff, 0x80000000, 0xfffffffe, math.MaxUint32, 0x82F63B78, 0x7d09c487, 0xe3069283, 0x12345678}
	for bit := range 32 {
		out = append(out, 1<<bit, ^uint32(1<<bit))
	}
	return out
}

// turned is b with these bits turned, the first of them the bit at, counted from the lowest of the first byte on; what is beyond b's end is left out.
func turned(b []byte, at int, bits uint32) []byte {
	out := bytes.Clone(b)
	for i := range 32 {
		if k := at + i; bits>>i&1 == 1 && k < 8*len(out) {
			out[k/8] ^= 1 << (k % 8)
		}
	}
	return out
}

func checkOpen(t *testing.T, b, want []byte, is bool) {
	t.Helper()
	if got, ok := Open(b); ok != is || !bytes.Equal(got, want) || !ok && len(got) != 0 {
		t.Fatalf("Open(%x) = %x, %v; want %x, %v", b, got, ok, want, is)
	}
}

// P2.1, B1: sums that are known, the chapter's example among them.
func TestKnownSums(t *testing.T) {
	rising, falling := make([]byte, 32), make([]byte, 32)
	for i := range 32 {
		rising[i], falling[i] = byte(i), byte(31-i)
	}
	for _, x := range []struct {
		b    []byte
		want uint32
	}{
		{[]byte("123456789"), 0xe3069283}, {nil, 0}, {[]byte{}, 0}, {[]byte("a"), 0xc1d04330}, {[]byte{0}, 0x527d5351},
		{make([]byte, 32), 0x8a9136aa}, {bytes.Repeat([]byte{0xff}, 32), 0x62a8ab43}, {rising, 0x46dd794e}, {falling, 0x113fdb5c},
	} {
		if got := Of(x.b); got != x.want {
			t.Errorf("Of(%x) = %08x, want %08x", x.b, got, x.want)
		}
	}
}

// P2.1, B1: Of is the plain rule, and that of all other programs, at every byte, every pair of them, and every length.
func TestOf(t *testing.T) {
	castagnoli := crc32.MakeTable(crc32.Castagnoli)
	check := func(b []byte) {
		got := Of(b)
		if want := plainMore(0, b); got != want || want != crc32.Checksum(b, castagnoli) {
			t.Fatalf("Of(%x) = %08x, want %08x", b, got, want)
		}
	}
	for i := range 1 << 16 {
		check([]byte{byte(i)})
		check([]byte{byte(i), byte(i >> 8)})
	}
	for _, b := range samples() {
		check(b)
	}
}

// P2.1, B1: More begins with any sum; with no bytes it is that sum, with the sum 0 it is Of.
func TestMore(t *testing.T) {
	for _, s := range sums() {
		for _, none := range [][]byte{nil, {}} {
			if got := More(s, none); got != s {
				t.Fatalf("More(%08x, none) = %08x", s, got)
			}
		}
		for _, b := range samples() {
			if got, want := More(s, b), plainMore(s, b); got != want {
				t.Fatalf("More(%08x, %x) = %08x, want %08x", s, b, got, want)
			}
		}
		for c := range 256 {
			if got, want := More(s, []byte{byte(c)}), plainMore(s, []byte{byte(c)}); got != want {
				t.Fatalf("More(%08x, %02x) = %08x, want %08x", s, c, got, want)
			}
		}
	}
	for _, b := range samples() {
		if More(0, b) != Of(b) {
			t.Fatalf("More(0, %x) = %08x, Of is %08x", b, More(0, b), Of(b))
		}
	}
}

// P2.2: the sum of a text is that of its parts, two or three, wherever it is parted, some of them none.
func TestParts(t *testing.T) {
	for _, b := range samples() {
		if len(b) > 70 {
			b = b[:70]
		}
		want := Of(b)
		for i := range len(b) + 1 {
			if got := More(Of(b[:i]), b[i:]); got != want {
				t.Fatalf("%x, parted at %d: %08x, want %08x", b, i, got, want)
			}
			for j := i; j <= len(b); j++ {
				if got := More(More(Of(b[:i]), b[i:j]), b[j:]); got != want {
					t.Fatalf("%x, parted at %d and %d: %08x, want %08x", b, i, j, got, want)
				}
			}
		}
	}
	for _, s := range sums() { // of any sum, not of those alone that some bytes gave here
		b := stir(s, 40)
		for i := range len(b) + 1 {
			if More(More(s, b[:i]), b[i:]) != More(s, b) {
				t.Fatalf("from %08x, parted at %d", s, i)
			}
		}
	}
	whole, s := stir(3, 4096), uint32(0)
	for i := range whole {
		s = More(s, whole[i:i+1])
	}
	if s != Of(whole) {
		t.Errorf("byte by byte %08x, at once %08x", s, Of(whole))
	}
}

// P2.1, B2: Seal puts the sum's four bytes behind, the lowest first; Open takes them off.
func TestSeal(t *testing.T) {
	if got := Seal([]byte("123456789")); string(got) != "123456789\x83\x92\x06\xe3" {
		t.Errorf("%x", got)
	}
	if got := Seal(nil); string(got) != "\x00\x00\x00\x00" {
		t.Errorf("%x", got)
	}
	for _, b := range samples() {
		s := plainMore(0, b)
		want := string(b) + string([]byte{byte(s), byte(s >> 8), byte(s >> 16), byte(s >> 24)})
		got := Seal(b)
		if string(got) != want {
			t.Fatalf("Seal(%x) = %x, want %x", b, got, want)
		}
		checkOpen(t, got, b, true)
		checkOpen(t, Seal(got), got, true) // what is sealed can be sealed
	}
}

// P2.1, B2 and P2: fewer than four bytes are not opened, whatever they are; four are, if they are the sum of none.
func TestOpenShort(t *testing.T) {
	checkOpen(t, nil, nil, false)
	checkOpen(t, []byte{}, nil, false)
	for n := range 4 {
		for _, c := range []byte{0, 1, 0x80, 0xff} {
			checkOpen(t, bytes.Repeat([]byte{c}, n), nil, false)
		}
	}
	for i := range 1 << 8 {
		checkOpen(t, []byte{byte(i)}, nil, false)
		checkOpen(t, []byte{byte(i), byte(i)}, nil, false)
		checkOpen(t, []byte{byte(i), 0, 0}, nil, false)
	}
	checkOpen(t, make([]byte, 4), nil, true)
	for bit := range 32 {
		checkOpen(t, turned(make([]byte, 4), bit, 1), nil, false)
	}
	for n := 5; n < 70; n++ { // a sum of zeros is not 0
		checkOpen(t, make([]byte, n), nil, false)
	}
}

// P2.1, B2 and P2: what is cut, or has something behind or ahead of it, or has its sum in another order, is not opened.
func TestOpenWrong(t *testing.T) {
	for n := range 70 {
		b := stir(uint32(n)+7, n)
		sealed := Seal(b)
		for k := range sealed {
			checkOpen(t, sealed[:k:k], nil, false)
			checkOpen(t, sealed[:k], nil, false)
		}
		checkOpen(t, append(bytes.Clone(sealed), 0), nil, false)
		checkOpen(t, append([]byte{0}, sealed...), nil, false)
		if s := Of(b); s != 0 {
			checkOpen(t, append(bytes.Clone(b), byte(s>>24), byte(s>>16), byte(s>>8), byte(s)), nil, false)
			checkOpen(t, append(bytes.Clone(b), byte(^s), byte(^s>>8), byte(^s>>16), byte(^s>>24)), nil, false)
		}
	}
}

// P2.3: no bits within 32 that stand together are turned unseen: one, two, all 32, and many others, from every place on.
func TestBursts(t *testing.T) {
	var bursts []uint32
	for i := range 32 {
		for j := range i + 1 {
			bursts = append(bursts, 1<<i|1<<j)
		}
	}
	bursts = append(bursts, math.MaxUint32, 0x82F63B78, 0x05ec76f1, 0xaaaaaaaa, 0x55555555)
	for i := uint32(1); i < 200; i++ {
		bursts = append(bursts, i*2654435761)
	}
	for _, n := range []int{0, 1, 2, 3, 4, 5, 9, 60} {
		sealed := Seal(stir(uint32(n), n))
		for at := range 8 * len(sealed) {
			for _, x := range bursts {
				hurt := turned(sealed, at, x)
				if bytes.Equal(hurt, sealed) { // all that was to turn is beyond the end
					continue
				}
				checkOpen(t, hurt, nil, false)
			}
		}
	}
}

// syndrome is how the sum that bytes have differs from the one that stands behind them.
func syndrome(b []byte) uint32 {
	at := len(b) - 4
	tail := uint32(b[at]) | uint32(b[at+1])<<8 | uint32(b[at+2])<<16 | uint32(b[at+3])<<24
	return Of(b[:at]) ^ tail
}

// P2.3, all bursts: what turned bits do to the sum is the exclusive or of what each one does; of 32 that stand together no such one is 0, for the 32 are independent.
func TestBurstsIndependent(t *testing.T) {
	b := Seal(stir(11, 200))
	one := make([]uint32, 8*len(b))
	for at := range one {
		one[at] = syndrome(turned(b, at, 1))
	}
	for at := range one {
		x := uint32(at)*2654435761 | 1
		want := uint32(0)
		for i := range min(32, len(one)-at) {
			want ^= one[at+i] * (x >> i & 1)
		}
		if got := syndrome(turned(b, at, x)); got != want {
			t.Fatalf("at %d: %08x, want %08x", at, got, want)
		}
	}
	for at := range len(one) - 31 {
		var rows [32]uint32 // by their highest bits
		for _, v := range one[at : at+32] {
			for bit := 31; bit >= 0 && v != 0; bit-- {
				switch {
				case v>>bit&1 == 0:
				case rows[bit] == 0:
					rows[bit], v = v, 0
				default:
					v ^= rows[bit]
				}
			}
		}
		for _, row := range rows {
			if row == 0 {
				t.Fatalf("some bits from %d on turn unseen", at)
			}
		}
	}
}

// P3: what is handed in is not changed, nor its spare room; what comes out is new memory, its spare room too; the same comes of the same.
func TestNewMemory(t *testing.T) {
	for _, n := range []int{0, 1, 3, 4, 50} {
		whole := bytes.Repeat([]byte{0xa5}, 100)
		checkOwn(t, "Seal", whole, n, func(b []byte) []byte { return Seal(b) })
		copy(whole, Seal(whole[:n]))
		checkOwn(t, "Open", whole, n+4, func(b []byte) []byte {
			out, ok := Open(b)
			if !ok || len(out) != n {
				t.Errorf("Open of %d: %d, %v", n, len(out), ok)
			}
			return out
		})
		before := string(whole)
		Of(whole[:n])
		More(7, whole[:n])
		Open(whole[:n])
		if string(whole) != before {
			t.Errorf("%d: the argument, or its spare room, has changed", n)
		}
	}
}

// checkOwn overwrites all that do answers, and looks whether whole, of which do is given the first n bytes, stays as it was.
func checkOwn(t *testing.T, name string, whole []byte, n int, do func(b []byte) []byte) {
	t.Helper()
	before := string(whole)
	first := do(whole[:n])
	want := string(first)
	for i := range first[:cap(first)] {
		first[:cap(first)][i] = 0x11
	}
	if string(whole) != before {
		t.Errorf("%s of %d: the argument, or its spare room, has changed", name, n)
	}
	second := do(whole[:n])
	if string(second) != want {
		t.Errorf("%s of %d: %x, then %x", name, n, want, second)
	}
	if strings.Trim(string(first), "\x11") != "" {
		t.Errorf("%s of %d: an answer has changed: %x", name, n, first)
	}
}

// Ways: the table is what four bits leave that go in one by one.
func TestSteps(t *testing.T) {
	for i, got := range steps {
		want := uint32(i)
		for range 4 {
			want = want>>1 ^ (want&1)*0x82F63B78
		}
		if got != want {
			t.Errorf("%d: %08x, want %08x", i, got, want)
		}
	}
}
