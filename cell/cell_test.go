package cell

import (
	"bytes"
	"encoding/hex"
	"hash/crc32"
	"math"
	"slices"
	"strings"
	"testing"
)

const (
	sectorLen = 64
	most      = 59 // bytes of a sector
	allBits   = 512
	maxSeq    = 1 << 31
)

var castagnoli = crc32.MakeTable(crc32.Castagnoli)

// low is n's four bytes, the lowest first.
func low(n uint32) []byte { return []byte{byte(n), byte(n >> 8), byte(n >> 16), byte(n >> 24)} }

// plainSum is the sum of a number, a place, and a sector's first sixty bytes.
func plainSum(seq int64, place int, first []byte) uint32 {
	return crc32.Checksum(slices.Concat(low(uint32(seq)), []byte{byte(place)}, first), castagnoli)
}

// summed is these first sixty bytes, and the sum behind them: a sector that has nothing wrong but what first has.
func summed(seq int64, place int, first []byte) []byte {
	return slices.Concat(first, low(plainSum(seq, place, first)))
}

// plainPut is the chapter's words for a sector's bytes.
func plainPut(seq int64, place int, b []byte) []byte {
	if seq < 1 || seq > 2147483648 || place < 0 || place > 255 || len(b) > 59 {
		return nil
	}
	return summed(seq, place, slices.Concat([]byte{byte(len(b))}, b, make([]byte, 59-len(b))))
}

// plainGet looks whether s is the sector of any of the bytes that it may be one of.
func plainGet(s []byte, seq int64, place int) ([]byte, bool) {
	for n := 0; n <= 59 && 1+n <= len(s); n++ {
		if p := plainPut(seq, place, s[1:1+n]); p != nil && bytes.Equal(p, s) {
			return s[1 : 1+n], true
		}
	}
	return nil, false
}

// stir is n bytes that hang on seed alone.
func stir(seed uint32, n int) []byte {
	out := make([]byte, n)
	for i := range out {
		seed = seed*1664525 + 1013904223
		out[i] = byte(seed >> 24)
	}
	return out
}

// samples are what sectors have: of every length all zeros, all ones, bytes of all sorts, and ones that end in zeros.
func samples() [][]byte {
	var out [][]byte
	for n := range most + 1 {
		ends := stir(uint32(n)+100, n)
		clear(ends[n/2:])
		out = append(out, make([]byte, n), bytes.Repeat([]byte{0xff}, n), stir(uint32(n), n), ends)
	}
	return out
}

// numbers and places are right ones, the edges among them.
func numbers() []int64 {
	out := []int64{1, 2, 3, 7, 255, 256, 257, 65535, 65536, 0x01020304, maxSeq - 1, maxSeq}
	for bit := range 31 {
		out = append(out, 1<<bit)
	}
	return out
}

func places() []int { return []int{0, 1, 2, 3, 7, 127, 128, 254, 255} }

func wrongNumbers() []int64 {
	return []int64{math.MinInt64, math.MinInt64 + 7, -1 << 32, 7 - 1<<32, -1 << 31, -7, -1, 0, maxSeq + 1, maxSeq + 7, 1<<32 - 1, 1 << 32, 1<<32 + 1, 1<<32 + 7, 1<<48 + 7, math.MaxInt64}
}

func wrongPlaces() []int {
	return []int{math.MinInt, math.MinInt + 3, 3 - 1<<32, -256, 3 - 256, -3, -1, 256, 257, 256 + 3, 511, 1 << 16, 1<<16 + 3, 1 << 32, 1<<32 + 3, math.MaxInt}
}

// checkGet holds what Get answers to what it should; beside false there is nothing.
func checkGet(t *testing.T, s []byte, seq int64, place int, want []byte, is bool) {
	t.Helper()
	if got, ok := Get(s, seq, place); ok != is || !bytes.Equal(got, want) || !ok && len(got) != 0 {
		t.Fatalf("Get(%x, %d, %d) = %x, %v; want %x, %v", s, seq, place, got, ok, want, is)
	}
}

func checkNone(t *testing.T, s []byte, seq int64, place int) {
	t.Helper()
	checkGet(t, s, seq, place, nil, false)
}

// P8.1, H1 and H2: sectors whose bytes are known, told from the register's words alone.
func TestKnown(t *testing.T) {
	for _, x := range []struct {
		seq   int64
		place int
		b     []byte
		head  string
		sum   string
	}{
		{7, 3, []byte("ab"), "026162", "97d4262e"},
		{1, 0, nil, "", "2b123d06"},
		{maxSeq, 255, bytes.Repeat([]byte{0xff}, most), "3b" + strings.Repeat("ff", most), "048d9b00"},
		{0x01020304, 9, []byte("\x01\x02\x03"), "03010203", ""},
		{maxSeq - 1, 0, []byte{0}, "01", "82be28ee"},
		{210330101, 0, nil, "", "00000000"},
	} {
		s := Put(x.seq, x.place, x.b)
		want := x.head + strings.Repeat("0", 120-len(x.head))
		if got := hex.EncodeToString(s); len(got) != 128 || got[:120] != want || !strings.HasSuffix(got, x.sum) {
			t.Errorf("Put(%d, %d, %x) = %s; want %s.. %s", x.seq, x.place, x.b, got, want, x.sum)
		}
		checkGet(t, s, x.seq, x.place, x.b, true)
	}
}

// P8.1, H1: Room, and that there is just as much.
func TestRoom(t *testing.T) {
	if Room() != most {
		t.Errorf("Room = %d", Room())
	}
	if len(Put(1, 0, make([]byte, Room()))) != sectorLen || len(Put(1, 0, make([]byte, Room()+1))) != 0 {
		t.Error("Room is not what there is room for")
	}
}

// P8.1, H1: Right, of each number at its edges with each place.
func TestRight(t *testing.T) {
	for place := range 256 {
		for _, seq := range numbers() {
			if !Right(seq, place) {
				t.Fatalf("Right(%d, %d) is false", seq, place)
			}
		}
		for _, seq := range wrongNumbers() {
			if Right(seq, place) {
				t.Fatalf("Right(%d, %d) is true", seq, place)
			}
		}
	}
	for _, place := range wrongPlaces() {
		for _, seq := range slices.Concat(numbers(), wrongNumbers()) {
			if Right(seq, place) {
				t.Fatalf("Right(%d, %d) is true", seq, place)
			}
		}
	}
}

// P8.1, H1: Put is the sector's bytes.
func TestPut(t *testing.T) {
	for _, seq := range numbers() {
		for _, place := range places() {
			for _, b := range samples() {
				if got, want := Put(seq, place, b), plainPut(seq, place, b); !bytes.Equal(got, want) {
					t.Fatalf("Put(%d, %d, %x) = %x; want %x", seq, place, b, got, want)
				}
			}
		}
	}
}

// P8.1, H1: Put is nothing of a number or a place that is not right, and of more than 59 bytes.
func TestPutNothing(t *testing.T) {
	check := func(seq int64, place int, b []byte) {
		t.Helper()
		if got := Put(seq, place, b); len(got) != 0 {
			t.Fatalf("Put(%d, %d, %d bytes) = %x", seq, place, len(b), got)
		}
	}
	for _, b := range [][]byte{nil, {}, []byte("ab"), make([]byte, most), make([]byte, most+1)} {
		for _, seq := range wrongNumbers() {
			check(seq, 3, b)
			check(seq, -1, b)
		}
		for _, place := range wrongPlaces() {
			check(7, place, b)
			check(0, place, b)
		}
	}
	for _, n := range []int{60, 61, 63, 64, 65, 128, 255, 256, 257, 256 + most, 512, 3600, 65536, 1 << 20} {
		check(7, 3, make([]byte, n))
		check(7, 3, bytes.Repeat([]byte{0xff}, n))
	}
}

// P8.2: what was put is got, of every length, with every place, and with numbers at their edges; zeros at its end too.
func TestThereAndBack(t *testing.T) {
	for _, seq := range numbers() {
		for _, place := range places() {
			for _, b := range samples() {
				checkGet(t, Put(seq, place, b), seq, place, b, true)
			}
		}
	}
	for place := range 256 {
		for n := range most + 1 {
			b := stir(uint32(place), n)
			checkGet(t, Put(int64(place)+1, place, b), int64(place)+1, place, b, true)
		}
		checkGet(t, Put(7, 3, []byte{byte(place)}), 7, 3, []byte{byte(place)}, true)
	}
	checkGet(t, append(Put(7, 3, []byte("ab")), 1, 2, 3)[:sectorLen], 7, 3, []byte("ab"), true) // what is behind is none of it
}

// P8.1, H2: bytes of another length are no sector, even if they begin, or end, with one.
func TestGetLength(t *testing.T) {
	for _, b := range [][]byte{nil, []byte("ab"), bytes.Repeat([]byte{0xff}, most)} {
		s := Put(7, 3, b)
		checkNone(t, nil, 7, 3)
		for n := range s {
			checkNone(t, s[:n], 7, 3)
			checkNone(t, s[:n:n], 7, 3)
			checkNone(t, s[n+1:], 7, 3)
		}
		for n := 1; n <= sectorLen; n++ {
			checkNone(t, append(bytes.Clone(s), make([]byte, n)...), 7, 3)
			checkNone(t, append(make([]byte, n), s...), 7, 3)
		}
		checkNone(t, append(bytes.Clone(s), s...), 7, 3)
	}
	// A sum that fits what is ahead of it does not make up for a length that does not.
	for n := range 128 {
		if n != 60 {
			checkNone(t, summed(7, 3, make([]byte, n)), 7, 3)
		}
	}
}

// P8.1, H2: with the right sum, but a first byte that tells of too many bytes, or of fewer than there are, it is none.
func TestGetForm(t *testing.T) {
	for count := range 256 {
		for _, c := range []byte{0, 1, 0xff} {
			first := slices.Concat([]byte{byte(count)}, bytes.Repeat([]byte{c}, most))
			if count == most || count < most && c == 0 {
				checkGet(t, summed(7, 3, first), 7, 3, first[1:1+count], true)
			} else {
				checkNone(t, summed(7, 3, first), 7, 3)
			}
		}
	}
	for count := range most {
		for at := 1 + count; at < 60; at++ { // one byte behind those it has, one bit of it
			first := slices.Concat([]byte{byte(count)}, stir(uint32(count), count), make([]byte, most-count))
			checkGet(t, summed(7, 3, first), 7, 3, first[1:1+count], true)
			first[at] = 1 << (at % 8)
			checkNone(t, summed(7, 3, first), 7, 3)
		}
	}
}

// P8.1, H2: a sum in another order, or of something else, is none.
func TestGetSum(t *testing.T) {
	for _, b := range [][]byte{nil, []byte("ab"), stir(1, most)} {
		s := Put(0x01020304, 9, b)
		first := s[:60]
		sum := plainSum(0x01020304, 9, first)
		tails := [][]byte{low(0), low(1), low(math.MaxUint32), low(^sum), low(sum + 1), low(sum - 1)}
		for _, text := range [][]byte{
			first, // neither the number nor the place
			slices.Concat([]byte{4, 3, 2, 1}, first),
			slices.Concat([]byte{9}, first),
			slices.Concat([]byte{1, 2, 3, 4, 9}, first),
			slices.Concat([]byte{9, 4, 3, 2, 1}, first),
			slices.Concat([]byte{4, 3, 2, 1, 9, 0}, first),
			slices.Concat([]byte{4, 3, 2, 1, 0, 0, 0, 0, 9}, first),
			slices.Concat(first, []byte{4, 3, 2, 1, 9}),
			slices.Concat([]byte{4, 3, 2, 1, 9}, first[1:]),
			slices.Concat([]byte{4, 3, 2, 1, 9}, first[:1+len(b)], []byte{0xff}),
		} {
			tails = append(tails, low(crc32.Checksum(text, castagnoli)), low(crc32.ChecksumIEEE(text)))
		}
		whole := slices.Concat([]byte{4, 3, 2, 1, 9}, first)
		tails = append(tails, low(crc32.ChecksumIEEE(whole)), []byte{byte(sum >> 24), byte(sum >> 16), byte(sum >> 8), byte(sum)})
		for i, tail := range tails {
			if bytes.Equal(tail, low(sum)) {
				t.Fatalf("tail %d is the sum", i)
			}
			checkNone(t, slices.Concat(first, tail), 0x01020304, 9)
		}
		checkGet(t, slices.Concat(first, low(sum)), 0x01020304, 9, b, true)
	}
}

// P8.1, H2 and P2: with a number or a place that is not right there is none, even where the sum is that of its bytes.
func TestGetNotRight(t *testing.T) {
	for _, b := range [][]byte{nil, []byte("ab"), stir(1, most)} {
		s := Put(7, 3, b)
		for _, seq := range wrongNumbers() {
			checkNone(t, s, seq, 3)
			checkNone(t, summed(seq, 3, s[:60]), seq, 3)
			checkNone(t, summed(seq, -1, s[:60]), seq, -1)
			checkNone(t, nil, seq, 3)
		}
		for _, place := range wrongPlaces() {
			checkNone(t, s, 7, place)
			checkNone(t, summed(7, place, s[:60]), 7, place)
			checkNone(t, s[:63], 7, place)
		}
	}
}

// P8.3: no sector is one of another number with its place: of those near it, of those with a byte or a bit more or less, and of others.
func TestOtherNumber(t *testing.T) {
	for _, place := range []int{0, 3, 255} {
		for _, seq := range numbers() {
			b := stir(uint32(seq), int(seq%(most+1)))
			s := Put(seq, place, b)
			others := numbers()
			for n := range int64(300) {
				others = append(others, seq-n, seq+n, n*2654435761%maxSeq+1)
			}
			for bit := range 32 {
				others = append(others, seq^1<<bit)
			}
			for _, other := range others {
				if other == seq {
					checkGet(t, s, other, place, b, true)
				} else {
					checkNone(t, s, other, place)
				}
			}
		}
	}
}

// P8.3, all numbers: what a number's bits do to the sum is the exclusive or of what each one does; no such one is 0, for the 32 are independent.
func TestNumbersIndependent(t *testing.T) {
	for _, place := range places() {
		sum := func(seq int64) uint32 {
			s := Put(seq, place, []byte("ab"))
			if len(s) != sectorLen {
				t.Fatalf("Put(%d, %d) = %x", seq, place, s)
			}
			return uint32(s[60]) | uint32(s[61])<<8 | uint32(s[62])<<16 | uint32(s[63])<<24
		}
		var one [32]uint32 // what each bit does
		one[0] = sum(3) ^ sum(2)
		for bit := 1; bit < 31; bit++ {
			one[bit] = sum(1<<bit|1) ^ sum(1)
		}
		one[31] = sum(maxSeq) ^ sum(1) ^ one[0]
		for n := range int64(1000) {
			seq := n*2654435761%(maxSeq-1) + 1
			want := sum(1) ^ one[0]
			for bit := range 31 {
				want ^= one[bit] * uint32(seq>>bit&1)
			}
			if got := sum(seq); got != want {
				t.Fatalf("place %d: the sum of %d is %08x; want %08x", place, seq, got, want)
			}
		}
		checkIndependent(t, one)
	}
}

// checkIndependent: no exclusive or of some of these is 0.
func checkIndependent(t *testing.T, one [32]uint32) {
	t.Helper()
	var rows [32]uint32 // by their highest bits
	for _, v := range one {
		for bit := 31; bit >= 0 && v != 0; bit-- {
			switch {
			case v>>bit&1 == 0:
			case rows[bit] == 0:
				rows[bit], v = v, 0
			default:
				v ^= rows[bit]
			}
		}
	}
	if slices.Contains(rows[:], 0) {
		t.Fatal("some bits of a number do nothing together")
	}
}

// P8.3: no sector is one of another place with its number: all pairs of places.
func TestOtherPlace(t *testing.T) {
	for _, seq := range []int64{1, 7, 0x01020304, maxSeq} {
		for place := range 256 {
			b := stir(uint32(place), place%(most+1))
			s := Put(seq, place, b)
			for other := range 256 {
				if other == place {
					checkGet(t, s, seq, other, b, true)
				} else {
					checkNone(t, s, seq, other)
				}
			}
		}
	}
}

// turned is s with these bits turned, the first of them the bit at, counted from the lowest of the first byte on; what is beyond its end is left out.
func turned(s []byte, at int, bits uint32) []byte {
	out := bytes.Clone(s)
	for i := range 32 {
		if k := at + i; bits>>i&1 == 1 && k < 8*len(out) {
			out[k/8] ^= 1 << (k % 8)
		}
	}
	return out
}

// bursts are what turns: one bit, two, all 32, and many others.
func bursts() []uint32 {
	out := []uint32{math.MaxUint32, 0x82F63B78, 0x05ec76f1, 0xaaaaaaaa, 0x55555555, 0x80000001, 0xffff, 0xff00ff}
	for i := range 32 {
		for j := range i + 1 {
			out = append(out, 1<<i|1<<j)
		}
	}
	for i := uint32(1); i < 200; i++ {
		out = append(out, i*2654435761)
	}
	return out
}

// hurtSectors are some that turn, of few bytes and of many.
func hurtSectors() []struct {
	seq   int64
	place int
	b     []byte
} {
	return []struct {
		seq   int64
		place int
		b     []byte
	}{
		{1, 0, nil}, {210330101, 0, nil}, {7, 3, []byte("ab")}, {0x01020304, 9, make([]byte, 30)}, {maxSeq - 1, 254, make([]byte, most)}, {maxSeq, 255, stir(2, most)},
	}
}

// P8.4: of a sector in which something has turned there is none: every burst of these, from every place on.
func TestBursts(t *testing.T) {
	for _, x := range hurtSectors() {
		s := Put(x.seq, x.place, x.b)
		for at := range allBits {
			for _, bits := range bursts() {
				hurt := turned(s, at, bits)
				if bytes.Equal(hurt, s) { // all that was to turn is beyond the end
					continue
				}
				if b, is := Get(hurt, x.seq, x.place); is || len(b) != 0 {
					t.Fatalf("%x of %d, %d, turned at %d by %08x: %x, %v", x.b, x.seq, x.place, at, bits, b, is)
				}
			}
		}
		checkGet(t, s, x.seq, x.place, x.b, true)
	}
}

// P8.4: all bursts of some bits: in how many bytes there are, in the last ones and the sum, and in the sum.
func TestBurstsAll(t *testing.T) {
	for _, x := range hurtSectors() {
		s := Put(x.seq, x.place, x.b)
		for _, at := range []int{0, 8 * 30, 8*60 - 8, 8 * 60, 8*64 - 16} {
			for bits := uint32(1); bits < 1<<16; bits += 2 {
				if b, is := Get(turned(s, at, bits), x.seq, x.place); is || len(b) != 0 {
					t.Fatalf("%x of %d, %d, turned at %d by %08x: %x, %v", x.b, x.seq, x.place, at, bits, b, is)
				}
			}
		}
	}
}

// P8.4: every other byte that a sector may have in a place is none, and so is each two bytes side by side.
func TestOtherByte(t *testing.T) {
	s := Put(7, 3, []byte("ab"))
	for at := range s {
		for c := 1; c < 256; c++ {
			checkNone(t, turned(s, 8*at, uint32(c)), 7, 3)
		}
		if at > 0 && s[at] != s[at-1] {
			swapped := bytes.Clone(s)
			swapped[at], swapped[at-1] = s[at-1], s[at]
			checkNone(t, swapped, 7, 3)
		}
	}
}

// zeroSum is the number of which, with a place, a sector of 0 alone has the sum 0; not every place has one that is a number.
func zeroSum(place int) int64 {
	zeros := make([]byte, 60)
	base := plainSum(0, place, zeros)
	var rows, which [32]uint32 // by their highest bits: what some bits of a number do to the sum, and which ones
	for i := range 32 {
		v, m := plainSum(1<<i, place, zeros)^base, uint32(1)<<i
		for bit := 31; bit >= 0 && v != 0; bit-- {
			switch {
			case v>>bit&1 == 0:
			case rows[bit] == 0:
				rows[bit], which[bit], v = v, m, 0
			default:
				v, m = v^rows[bit], m^which[bit]
			}
		}
	}
	var seq uint32
	for bit := 31; bit >= 0; bit-- {
		if base>>bit&1 == 1 {
			base, seq = base^rows[bit], seq^which[bit]
		}
	}
	return int64(seq)
}

// P8.5: a sector of 0 alone has no bytes, whatever the number and the place; of the few of which it is the sector that has none, it is that.
func TestZeros(t *testing.T) {
	zeros := make([]byte, sectorLen)
	theirs := 0
	for place := range 256 {
		for _, seq := range numbers() {
			checkNone(t, zeros, seq, place)
		}
		for seq := range int64(2000) {
			checkNone(t, zeros, seq, place)
		}
		seq := zeroSum(place)
		if plainSum(seq, place, zeros[:60]) != 0 {
			t.Fatalf("place %d: the sum of %d is not 0", place, seq)
		}
		is := 1 <= seq && seq <= maxSeq
		checkGet(t, zeros, seq, place, nil, is)
		if is {
			theirs++
			if !bytes.Equal(Put(seq, place, nil), zeros) {
				t.Fatalf("Put(%d, %d, none) is not of 0 alone", seq, place)
			}
		}
	}
	if theirs == 0 {
		t.Error("no number has the sum 0")
	}
}

// P8.5: of no bytes that are there a sector is of 0 alone.
func TestNotZeros(t *testing.T) {
	for place := range 256 {
		for n := 1; n <= most; n++ {
			if bytes.Equal(Put(zeroSum(place), place, make([]byte, n)), make([]byte, sectorLen)) {
				t.Fatalf("place %d: %d bytes are of 0 alone", place, n)
			}
		}
	}
}

// P3: what is handed in is not changed, nor its spare room, and not kept; what comes out is one's own, its spare room too.
func TestMemory(t *testing.T) {
	for _, n := range []int{0, 1, 2, 30, 58, 59} {
		whole := stir(uint32(n)+5, 100)
		checkOwn(t, "Put", whole, n, func(b []byte) []byte { return Put(7, 3, b) })
		copy(whole, Put(7, 3, bytes.Clone(whole[:n])))
		checkOwn(t, "Get", whole, sectorLen, func(s []byte) []byte {
			b, is := Get(s, 7, 3)
			if !is || len(b) != n {
				t.Errorf("Get of %d bytes: %d, %v", n, len(b), is)
			}
			return b
		})
	}
	for _, n := range []int{60, 64, 100} { // too many, and no sector
		whole := stir(uint32(n), 128)
		before := bytes.Clone(whole)
		Put(7, 3, whole[:n])
		Put(0, 3, whole[:n])
		Get(whole[:n], 7, 3)
		Get(whole[:n], 7, -1)
		if !bytes.Equal(whole, before) {
			t.Errorf("%d: the argument, or its spare room, has changed", n)
		}
	}
}

// checkOwn overwrites all that do answers, and then all that it was given, and looks whether the other one, or another answer, has changed.
func checkOwn(t *testing.T, name string, whole []byte, n int, do func(b []byte) []byte) {
	t.Helper()
	before := bytes.Clone(whole)
	first, second := do(whole[:n]), do(whole[:n])
	want := bytes.Clone(second)
	for i := range first[:cap(first)] {
		first[:cap(first)][i] ^= 0xff
	}
	if !bytes.Equal(whole, before) {
		t.Errorf("%s of %d: the argument, or its spare room, has changed", name, n)
	}
	if !bytes.Equal(second, want) {
		t.Errorf("%s of %d: another answer has changed", name, n)
	}
	if third := do(whole[:n]); !bytes.Equal(third, want) {
		t.Errorf("%s of %d: %x, then %x", name, n, want, third)
	}
	for i := range whole {
		whole[i] ^= 0xff
	}
	if !bytes.Equal(second, want) {
		t.Errorf("%s of %d: an answer has changed with the argument", name, n)
	}
	copy(whole, before)
}

// P3: what a call answers hangs on its arguments alone, not on the calls ahead of it.
func TestAgain(t *testing.T) {
	one, other := Put(7, 3, []byte("ab")), Put(8, 4, stir(1, most))
	for range 3 {
		checkGet(t, one, 7, 3, []byte("ab"), true)
		checkGet(t, other, 8, 4, stir(1, most), true)
		checkNone(t, one, 8, 4)
		checkNone(t, other, 7, 3)
		if !bytes.Equal(Put(7, 3, []byte("ab")), one) || !bytes.Equal(Put(8, 4, stir(1, most)), other) {
			t.Fatal("Put answers something else than ahead")
		}
	}
}

// FuzzCell holds Put, and Get, to the plain words, whatever they are given.
func FuzzCell(f *testing.F) {
	f.Add([]byte(nil), int64(1), 0)
	f.Add([]byte("ab"), int64(7), 3)
	f.Add(make([]byte, sectorLen), int64(210330101), 0)
	f.Add(Put(7, 3, []byte("ab")), int64(7), 3)
	f.Add(Put(maxSeq, 255, stir(1, most)), int64(maxSeq), 255)
	f.Add(Put(7, 3, []byte("ab")), int64(7+1<<32), 3+256)
	f.Add(stir(2, 60), int64(0), -1)
	f.Fuzz(func(t *testing.T, b []byte, seq int64, place int) {
		put := Put(seq, place, b)
		if want := plainPut(seq, place, b); !bytes.Equal(put, want) {
			t.Fatalf("Put(%d, %d, %x) = %x; want %x", seq, place, b, put, want)
		}
		if Right(seq, place) && len(b) <= most {
			checkGet(t, put, seq, place, b, true)
		}
		want, is := plainGet(b, seq, place)
		checkGet(t, b, seq, place, want, is)
		if len(b) >= 60 { // a sum that fits leads further in
			s := summed(seq, place, b[:60])
			want, is = plainGet(s, seq, place)
			checkGet(t, s, seq, place, want, is)
		}
	})
}
