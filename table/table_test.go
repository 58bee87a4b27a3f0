package table

import (
	"bytes"
	"encoding/binary"
	"encoding/hex"
	"hash/crc32"
	"math"
	"slices"
	"strings"
	"testing"

	"turntable/api"
)

const (
	maxSeq    = 2147483648
	maxLen    = 3776
	sectorLen = 64
	most      = 59 // bytes that a sector has room for
)

// plainRight is the chapter's words for a table that is right.
func plainRight(t api.Table) bool {
	if t.Gen < 1 || t.Gen > maxSeq || len(t.Exts) < 4 || len(t.Exts) > 8 {
		return false
	}
	seen := map[int64]int{}
	for _, e := range t.Exts {
		if e.Seq < 0 || e.Seq > maxSeq || e.Len < 0 || e.Len > maxLen {
			return false
		}
		if e.Seq == 0 && e.Len != 0 {
			return false
		}
		seen[e.Seq]++
	}
	for seq, n := range seen {
		if seq != 0 && n > 1 {
			return false
		}
	}
	if t.Open == -1 {
		return true
	}
	for i, e := range t.Exts {
		if i == t.Open {
			return e.Seq != 0 && e.Len == 0
		}
	}
	return false
}

// plainBytes are the bytes that a table's sector has; those of a table that is not right are cut as they come.
func plainBytes(t api.Table) []byte {
	b := binary.LittleEndian.AppendUint32(nil, uint32(t.Gen))
	b = append(b, byte(len(t.Exts)), byte(t.Open+1))
	for _, e := range t.Exts {
		b = binary.LittleEndian.AppendUint32(b, uint32(e.Seq))
		b = binary.LittleEndian.AppendUint16(b, uint16(e.Len))
	}
	return b
}

// summed is these sixty bytes and their sum, with a number and a place.
func summed(seq int64, place int, first []byte) []byte {
	text := binary.LittleEndian.AppendUint32(nil, uint32(seq))
	text = append(text, byte(place))
	sum := crc32.Checksum(append(text, first...), crc32.MakeTable(crc32.Castagnoli))
	return binary.LittleEndian.AppendUint32(bytes.Clone(first), sum)
}

// sector is one of a number and a place that has b, with nothing wrong but what b has.
func sector(seq int64, place int, b []byte) []byte {
	return summed(seq, place, slices.Concat([]byte{byte(len(b))}, b, make([]byte, most-len(b))))
}

// plainPut is the chapter's words for a table's sector.
func plainPut(t api.Table) []byte {
	if !plainRight(t) {
		return nil
	}
	return sector(t.Gen, 255, plainBytes(t))
}

// plainGet takes s apart, and asks each part.
func plainGet(s []byte) (api.Table, bool) {
	if len(s) != sectorLen || s[0] < 6 || s[0] > most {
		return api.Table{}, false
	}
	b := s[1 : 1+s[0]]
	t := api.Table{Gen: int64(binary.LittleEndian.Uint32(b)), Open: int(b[5]) - 1}
	if (len(b)-6)%6 != 0 || (len(b)-6)/6 != int(b[4]) {
		return api.Table{}, false
	}
	for rest := b[6:]; len(rest) > 0; rest = rest[6:] {
		t.Exts = append(t.Exts, api.Ext{Seq: int64(binary.LittleEndian.Uint32(rest)), Len: int(binary.LittleEndian.Uint16(rest[4:]))})
	}
	if !plainRight(t) || !bytes.Equal(sector(t.Gen, 255, b), s) {
		return api.Table{}, false
	}
	return t, true
}

// plainOrder looks for the least Seq that is greater than the last one, again and again.
func plainOrder(t api.Table) []int {
	var out []int
	if !plainRight(t) {
		return nil
	}
	for last := int64(0); ; last = t.Exts[out[len(out)-1]].Seq {
		next := -1
		for i, e := range t.Exts {
			if e.Seq > last && (next < 0 || e.Seq < t.Exts[next].Seq) {
				next = i
			}
		}
		if next < 0 {
			return out
		}
		out = append(out, next)
	}
}

func plainFree(t api.Table) []int {
	var out []int
	for i := 0; plainRight(t) && i < len(t.Exts); i++ {
		if t.Exts[i].Seq == 0 {
			out = append(out, i)
		}
	}
	return out
}

func plainLast(t api.Table) int64 {
	var last int64
	for i := 0; plainRight(t) && i < len(t.Exts); i++ {
		last = max(last, t.Exts[i].Seq)
	}
	return last
}

// same: two tables that are told by the same bytes; no extents are no extents, nil or not.
func same(a, b api.Table) bool {
	return a.Gen == b.Gen && a.Open == b.Open && slices.Equal(a.Exts, b.Exts)
}

// check holds every call to the chapter's words, of one table.
func check(t *testing.T, x api.Table) {
	t.Helper()
	right := plainRight(x)
	if got := Right(x); got != right {
		t.Fatalf("Right(%v) = %v", x, got)
	}
	s := Put(x)
	if want := plainPut(x); !bytes.Equal(s, want) {
		t.Fatalf("Put(%v) = %x; want %x", x, s, want)
	}
	if got, want := Order(x), plainOrder(x); !slices.Equal(got, want) {
		t.Fatalf("Order(%v) = %v; want %v", x, got, want)
	}
	if got, want := Free(x), plainFree(x); !slices.Equal(got, want) {
		t.Fatalf("Free(%v) = %v; want %v", x, got, want)
	}
	if got, want := Last(x), plainLast(x); got != want {
		t.Fatalf("Last(%v) = %d; want %d", x, got, want)
	}
	if right {
		checkGet(t, s, x, true)
	} else {
		checkNone(t, s)
	}
}

// checkGet holds what Get answers to what it should; beside false there is a zero table.
func checkGet(t *testing.T, s []byte, want api.Table, is bool) {
	t.Helper()
	got, ok := Get(s)
	if ok != is || !same(got, want) {
		t.Fatalf("Get(%x) = %v, %v; want %v, %v", s, got, ok, want, is)
	}
	if ok && !bytes.Equal(Put(got), s) {
		t.Fatalf("Get(%x) = %v, which has another sector", s, got)
	}
}

func checkNone(t *testing.T, s []byte) {
	t.Helper()
	checkGet(t, s, api.Table{}, false)
}

// of is a table of these extents.
func of(gen int64, open int, exts ...api.Ext) api.Table {
	return api.Table{Gen: gen, Open: open, Exts: exts}
}

// with is t, changed; t stays as it is.
func with(t api.Table, change func(t *api.Table)) api.Table {
	t.Exts = slices.Clone(t.Exts)
	change(&t)
	return t
}

// many is a table of n extents, the places of which stand in the order of their Seqs; those of 0 are free.
func many(gen int64, seqs ...int64) api.Table {
	t := api.Table{Gen: gen, Open: -1}
	for i, seq := range seqs {
		e := api.Ext{Seq: seq}
		if seq != 0 {
			e.Len = 100*i + 1
		}
		t.Exts = append(t.Exts, e)
	}
	return t
}

// stir is a row of numbers that hang on seed alone.
func stir(seed *uint64) uint64 {
	*seed = *seed*6364136223846793005 + 1442695040888963407
	return *seed >> 33
}

// rightTables are some that are right: every number of extents, the least and the greatest of all that is in them, and others.
func rightTables() []api.Table {
	out := []api.Table{
		of(3, 2, api.Ext{Seq: 5, Len: 300}, api.Ext{}, api.Ext{Seq: 6}, api.Ext{}),
		of(1, 0, api.Ext{Seq: 1}, api.Ext{}, api.Ext{}, api.Ext{}),
		of(0x01020304, -1, api.Ext{Seq: 0x0a0b0c0d, Len: 0x0102}, api.Ext{Seq: 1, Len: maxLen}, api.Ext{Seq: maxSeq, Len: 1}, api.Ext{Seq: 2}),
	}
	for n := 4; n <= 8; n++ {
		full := api.Table{Gen: maxSeq, Open: -1}
		for i := range n {
			full.Exts = append(full.Exts, api.Ext{Seq: int64(maxSeq - i), Len: maxLen})
		}
		out = append(out, full, api.Table{Gen: 1, Open: -1, Exts: make([]api.Ext, n)})
		for open := range n {
			out = append(out, with(full, func(t *api.Table) { t.Open, t.Exts[open].Len = open, 0 }))
		}
	}
	seed := uint64(9)
	for range 300 {
		out = append(out, anyTable(&seed))
	}
	return out
}

// anyTable is a right one, of Seqs of any width.
func anyTable(seed *uint64) api.Table {
	t := api.Table{Gen: int64(stir(seed)%maxSeq) + 1, Open: -1}
	n := 4 + int(stir(seed)%5)
	width := stir(seed)%30 + 2
	for len(t.Exts) < n {
		e := api.Ext{Seq: int64(stir(seed)%(1<<width)) + 1, Len: int(stir(seed) % (maxLen + 1))}
		if stir(seed)%3 == 0 || slices.ContainsFunc(t.Exts, func(x api.Ext) bool { return x.Seq == e.Seq }) {
			e = api.Ext{}
		}
		t.Exts = append(t.Exts, e)
	}
	if open := int(stir(seed) % uint64(n)); t.Exts[open].Seq != 0 && stir(seed)%2 == 0 {
		t.Open, t.Exts[open].Len = open, 0
	}
	return t
}

// wrongNumbers are none that a Gen, or a Seq, may be (0 a Seq may be); as four bytes many of them look like one that is right.
func wrongNumbers() []int64 {
	return []int64{math.MinInt64, math.MinInt64 + 7, -1 << 32, 7 - 1<<32, -maxSeq, -7, -1, maxSeq + 1, maxSeq + 7, 1<<32 - 1, 1 << 32, 1<<32 + 1, 1<<32 + 7, 1<<48 + 7, math.MaxInt64}
}

func wrongLens() []int {
	return []int{math.MinInt, math.MinInt + 7, -1 << 32, 7 - 1<<32, -1 << 16, 7 - 1<<16, -3776, -1, maxLen + 1, 3777, 4096, 32768, 65535, 65536, 65536 + 7, 1 << 32, 1<<32 + 7, math.MaxInt}
}

func wrongOpens(n int) []int {
	return []int{math.MinInt, math.MinInt + 1, -1 << 32, -1<<32 + 1, -257, -256, -255, -254, -3, -2, n, n + 1, 8, 9, 127, 128, 254, 255, 256, 257, 511, 65536, 65537, 1 << 32, 1<<32 + 1, math.MaxInt - 1, math.MaxInt}
}

// P9.1, I1 and I2: tables whose sectors are known.
func TestKnown(t *testing.T) {
	for _, x := range []struct {
		t     api.Table
		head  string
		sum   string
		order []int
		free  []int
		last  int64
	}{
		{
			of(3, 2, api.Ext{Seq: 5, Len: 300}, api.Ext{}, api.Ext{Seq: 6}, api.Ext{}),
			"1e" + "03000000" + "04" + "03" + "05000000" + "2c01" + "000000000000" + "060000000000" + "000000000000",
			"9867017d", []int{0, 2}, []int{1, 3}, 6,
		},
		{
			of(1, -1, make([]api.Ext, 4)...),
			"1e" + "01000000" + "04" + "00" + strings.Repeat("0", 48),
			"d9efa019", nil, []int{0, 1, 2, 3}, 0,
		},
		{
			of(maxSeq, 4, api.Ext{Seq: maxSeq, Len: maxLen}, api.Ext{Seq: 1, Len: 1}, api.Ext{}, api.Ext{Seq: 0x01020304, Len: 0x0102}, api.Ext{Seq: 2}),
			"24" + "00000080" + "05" + "05" + "00000080" + "c00e" + "01000000" + "0100" + "000000000000" + "04030201" + "0201" + "020000000000",
			"4d17812d", []int{1, 4, 3, 0}, []int{2}, maxSeq,
		},
		{
			of(0x01020304, 7, append(slices.Repeat([]api.Ext{{}}, 7), api.Ext{Seq: 9})...),
			"36" + "04030201" + "08" + "08" + strings.Repeat("0", 84) + "090000000000",
			"335bb359", []int{7}, []int{0, 1, 2, 3, 4, 5, 6}, 9,
		},
	} {
		s := Put(x.t)
		want := x.head + strings.Repeat("0", 120-len(x.head))
		if got := hex.EncodeToString(s); len(got) != 128 || got[:120] != want || !strings.HasSuffix(got, x.sum) {
			t.Errorf("Put(%v) = %s; want %s and %s", x.t, got, want, x.sum)
		}
		if !slices.Equal(Order(x.t), x.order) || !slices.Equal(Free(x.t), x.free) || Last(x.t) != x.last {
			t.Errorf("%v: %v, %v, %d; want %v, %v, %d", x.t, Order(x.t), Free(x.t), Last(x.t), x.order, x.free, x.last)
		}
		check(t, x.t)
	}
}

// P9.1, I1: as many extents as may be, and no more or fewer; of three it is not right.
func TestHowMany(t *testing.T) {
	for n := range 600 {
		for _, open := range []int{-1, 0} {
			x := api.Table{Gen: 1, Open: open, Exts: make([]api.Ext, n)}
			for i := range min(n, 5) {
				x.Exts[i] = api.Ext{Seq: int64(i) + 1}
			}
			if Right(x) != (4 <= n && n <= 8) {
				t.Fatalf("Right of %d extents, Open %d: %v", n, open, Right(x))
			}
			check(t, x)
		}
	}
	for _, n := range []int{1 << 16, 1<<16 + 4, 1 << 20} {
		check(t, api.Table{Gen: 1, Open: -1, Exts: make([]api.Ext, n)})
		x := api.Table{Gen: 1, Open: 0, Exts: make([]api.Ext, n)}
		for i := range x.Exts {
			x.Exts[i].Seq = int64(i) + 1
		}
		check(t, x)
	}
	check(t, api.Table{})
	check(t, api.Table{Gen: 1, Open: -1})
	check(t, api.Table{Gen: 1, Open: -1, Exts: []api.Ext{}})
}

// P9.1, I1: each number that is none of a right table makes it not right, in each extent.
func TestNotRight(t *testing.T) {
	for _, x := range rightTables()[:60] {
		check(t, x)
		bad := func(change func(t *api.Table)) {
			t.Helper()
			y := with(x, change)
			if Right(y) {
				t.Fatalf("Right(%v)", y)
			}
			check(t, y)
		}
		for _, n := range append(wrongNumbers(), 0) {
			bad(func(t *api.Table) { t.Gen = n })
		}
		for _, open := range wrongOpens(len(x.Exts)) {
			if open < 0 || open >= len(x.Exts) {
				bad(func(t *api.Table) { t.Open = open })
			}
		}
		for i := range x.Exts {
			for _, n := range wrongNumbers() {
				bad(func(t *api.Table) { t.Exts[i].Seq = n })
				bad(func(t *api.Table) { t.Exts[i] = api.Ext{Seq: n} })
			}
			for _, n := range wrongLens() {
				bad(func(t *api.Table) { t.Exts[i].Len = n })
				bad(func(t *api.Table) { t.Exts[i] = api.Ext{Seq: 77, Len: n} })
				bad(func(t *api.Table) { t.Exts[i] = api.Ext{Len: n} })
			}
			for _, n := range []int{1, 2, 255, 256, maxLen} { // a free one has no bytes
				bad(func(t *api.Table) { t.Exts[i] = api.Ext{Len: n} })
			}
			for j, e := range x.Exts { // of two that are used each has its own Seq
				if i != j && e.Seq != 0 {
					bad(func(t *api.Table) { t.Exts[i] = e })
					bad(func(t *api.Table) { t.Exts[i] = api.Ext{Seq: e.Seq} })
				}
			}
		}
	}
}

// P9.1, I1: Open is none, or the place of one that is used and of which nothing is fixed: each place, of each such extent.
func TestOpen(t *testing.T) {
	for n := 4; n <= 8; n++ {
		for at := range n {
			for _, e := range []api.Ext{{}, {Seq: 9}, {Seq: 9, Len: 1}, {Seq: 9, Len: 256}, {Seq: 9, Len: maxLen}, {Seq: maxSeq}} {
				for open := -3; open <= n+3; open++ {
					x := api.Table{Gen: 7, Open: open, Exts: make([]api.Ext, n)}
					x.Exts[at] = e
					if want := open == -1 || open == at && e.Seq != 0 && e.Len == 0; Right(x) != want {
						t.Fatalf("Right(%v) = %v", x, !want)
					}
					check(t, x)
				}
				for _, open := range wrongOpens(n) {
					x := api.Table{Gen: 7, Open: open, Exts: make([]api.Ext, n)}
					x.Exts[at] = e
					if open != at && Right(x) {
						t.Fatalf("Right(%v)", x)
					}
					check(t, x)
				}
			}
		}
	}
}

// P9.1, I1 and I2: all tables of four extents that are each one of these, with each Open about them.
func TestAllOfFour(t *testing.T) {
	exts := []api.Ext{{}, {Len: 1}, {Seq: 1}, {Seq: 1, Len: 2}, {Seq: 2}, {Seq: 3, Len: maxLen}, {Seq: 256, Len: 256}, {Seq: -1}, {Seq: maxSeq, Len: maxLen + 1}}
	n := len(exts)
	rights := 0
	for i := range n * n * n * n {
		x := of(int64(i)+1, 0, exts[i%n], exts[i/n%n], exts[i/n/n%n], exts[i/n/n/n])
		for x.Open = -2; x.Open <= 4; x.Open++ {
			check(t, x)
			if Right(x) {
				rights++
			}
		}
	}
	if rights < 300 {
		t.Errorf("%d right ones", rights)
	}
}

// P9.2: a right one is got of its sector, with numbers at each bit; what is got has it.
func TestThereAndBack(t *testing.T) {
	for _, x := range rightTables() {
		if !Right(x) {
			t.Fatalf("Right(%v) is false", x)
		}
		check(t, x)
	}
	for bit := range 32 {
		for _, n := range []int64{1 << bit, 1<<bit - 1, 1<<bit + 1} {
			check(t, of(n, -1, make([]api.Ext, 4)...))
			check(t, with(many(1, 0, 0, 0, 0), func(t *api.Table) { t.Exts[bit%4] = api.Ext{Seq: n} }))
			check(t, with(many(1, 0, 0, 0, 0), func(t *api.Table) { t.Exts[bit%4], t.Open = api.Ext{Seq: n}, bit%4 }))
		}
	}
	for n := range maxLen + 2 {
		check(t, with(many(1, 0, 0, 0, 0), func(t *api.Table) { t.Exts[n%4] = api.Ext{Seq: 3, Len: n} }))
	}
}

// P9.2: no two right ones have one sector.
func TestSectorsDiffer(t *testing.T) {
	had := map[string]api.Table{}
	for _, x := range rightTables() {
		s := string(Put(x))
		if y, is := had[s]; is && !same(x, y) {
			t.Fatalf("%v and %v have one sector", x, y)
		}
		had[s] = x
	}
}

// P9.1, I1: bytes of another length are no sector, even if they begin, or end, with one.
func TestGetLength(t *testing.T) {
	for _, x := range rightTables()[:20] {
		s := Put(x)
		checkNone(t, nil)
		for n := range s {
			checkNone(t, s[:n])
			checkNone(t, s[:n:n])
			checkNone(t, s[n+1:])
		}
		for n := 1; n <= sectorLen; n++ {
			checkNone(t, append(bytes.Clone(s), make([]byte, n)...))
			checkNone(t, append(make([]byte, n), s...))
		}
		checkNone(t, append(bytes.Clone(s), s...))
		checkGet(t, append(bytes.Clone(s), 1, 2, 3)[:sectorLen], x, true) // what is behind is none of it
	}
}

// P9.1, I1: a sector in which something is another byte is none.
func TestGetTurned(t *testing.T) {
	for _, x := range rightTables()[:20] {
		s := Put(x)
		for at := range s {
			for c := 1; c < 256; c++ {
				s[at] ^= byte(c)
				checkNone(t, s)
				s[at] ^= byte(c)
			}
		}
		checkGet(t, s, x, true)
	}
}

// P9.1, I1: with a right sum, but of another number or place than the table's, it is none.
func TestGetOther(t *testing.T) {
	for _, x := range rightTables()[:60] {
		b := plainBytes(x)
		for place := range 256 {
			if place != 255 {
				checkNone(t, sector(x.Gen, place, b))
			}
		}
		for _, gen := range []int64{0, 1, 2, x.Gen - 1, x.Gen + 1, x.Gen << 8, x.Gen ^ 1<<31, maxSeq, maxSeq + 1, 1<<32 - 1} {
			if gen == x.Gen {
				continue
			}
			checkNone(t, sector(gen, 255, b))
			checkNone(t, sector(x.Gen, 255, plainBytes(with(x, func(t *api.Table) { t.Gen = gen }))))
		}
		checkGet(t, sector(x.Gen, 255, b), x, true)
	}
}

// P9.1, I1: of the bytes of a table that is not right, under a right sum, there is none.
func TestGetNotRight(t *testing.T) {
	for _, x := range rightTables()[:60] {
		told := func(change func(t *api.Table)) {
			t.Helper()
			y := with(x, change)
			s := sector(y.Gen, 255, plainBytes(y))
			want, is := plainGet(s)
			if is && plainRight(y) {
				t.Fatalf("%v is right", y)
			}
			checkGet(t, s, want, is) // cut to its bytes it may be one that is right
		}
		told(func(t *api.Table) { t.Gen = 0 })
		told(func(t *api.Table) { t.Gen = maxSeq + 1 })
		told(func(t *api.Table) { t.Gen = 1<<32 - 1 })
		for _, open := range wrongOpens(len(x.Exts)) {
			if open < 0 || open >= len(x.Exts) {
				told(func(t *api.Table) { t.Open = open })
			}
		}
		for i, e := range x.Exts {
			told(func(t *api.Table) { t.Exts[i].Seq = maxSeq + 1 })
			told(func(t *api.Table) { t.Exts[i].Seq = 1<<32 - 1 })
			told(func(t *api.Table) { t.Exts[i].Len = maxLen + 1 })
			told(func(t *api.Table) { t.Exts[i].Len = 65535 })
			told(func(t *api.Table) { t.Exts[i] = api.Ext{Len: 1} })
			told(func(t *api.Table) { t.Exts[i] = api.Ext{Len: 256} })
			if e.Seq != 0 {
				told(func(t *api.Table) { t.Exts[(i+1)%len(t.Exts)] = e })
			}
		}
	}
}

// P9.1, I1: bytes that are too few, or too many, for the extents that they tell of, are none, whatever they tell of.
func TestGetForm(t *testing.T) {
	for n := range 9 {
		x := api.Table{Gen: 7, Open: -1, Exts: make([]api.Ext, n)}
		for count := range 256 {
			for size := range most + 1 {
				b := append(plainBytes(x), make([]byte, most)...)[:size]
				if size > 4 {
					b[4] = byte(count)
				}
				s := sector(7, 255, b)
				want, is := plainGet(s)
				if is != (4 <= count && count <= 8 && size == 6+6*count) {
					t.Fatalf("plainGet of %d bytes that tell of %d: %v", size, count, is)
				}
				checkGet(t, s, want, is)
			}
		}
	}
	for _, x := range rightTables()[:60] {
		b := plainBytes(x)
		for size := range most + 1 {
			if size == len(b) {
				continue
			}
			checkNone(t, sector(x.Gen, 255, append(bytes.Clone(b), make([]byte, most)...)[:size]))
			checkNone(t, sector(x.Gen, 255, append(bytes.Clone(b), bytes.Repeat([]byte{7}, most)...)[:size]))
		}
	}
}

// P9.1, I1: with a right sum, but a first byte that tells of too many bytes, or bytes behind those it tells of, it is none.
func TestGetCell(t *testing.T) {
	for _, x := range rightTables()[:60] {
		s := Put(x)
		size := int(s[0])
		for first := range 256 {
			if first != size {
				head := bytes.Clone(s[:60])
				head[0] = byte(first)
				checkNone(t, summed(x.Gen, 255, head))
			}
		}
		for at := 1 + size; at < 60; at++ {
			head := bytes.Clone(s[:60])
			head[at] = 1 << (at % 8)
			checkNone(t, summed(x.Gen, 255, head))
		}
		checkGet(t, summed(x.Gen, 255, s[:60]), x, true)
	}
}

// P9.1, I1: a sector of one byte alone, of 0 say, is none; with a right sum neither.
func TestGetSame(t *testing.T) {
	for c := range 256 {
		s := bytes.Repeat([]byte{byte(c)}, sectorLen)
		checkNone(t, s)
		checkNone(t, summed(int64(binary.LittleEndian.Uint32(s)), 255, s[:60]))
	}
	for _, b := range [][]byte{nil, {0}, make([]byte, 4), make([]byte, 6), make([]byte, 30), make([]byte, 54), make([]byte, most)} {
		for _, gen := range []int64{0, 1, 7, maxSeq, 210330101} {
			checkNone(t, sector(gen, 255, b))
		}
	}
}

// P9.3: each extent is told once, as one that is used or as one that is free; used ones stand in order, and Last is the last one's.
func TestAll(t *testing.T) {
	for _, x := range rightTables() {
		used, free := Order(x), Free(x)
		all := slices.Sorted(slices.Values(slices.Concat(used, free)))
		for i := range x.Exts {
			if len(all) != len(x.Exts) || all[i] != i {
				t.Fatalf("%v: used %v, free %v", x, used, free)
			}
		}
		for i, at := range used {
			if x.Exts[at].Seq == 0 || i > 0 && x.Exts[used[i-1]].Seq >= x.Exts[at].Seq {
				t.Fatalf("%v: used %v", x, used)
			}
		}
		for i, at := range free {
			if x.Exts[at].Seq != 0 || i > 0 && free[i-1] >= at {
				t.Fatalf("%v: free %v", x, free)
			}
		}
		if last := Last(x); len(used) > 0 && last != x.Exts[used[len(used)-1]].Seq || len(used) == 0 && last != 0 {
			t.Fatalf("%v: Last %d", x, last)
		}
	}
}

// P9.3: every order in which four Seqs, and free ones, may stand; Seqs that differ in one byte, or half, alone.
func TestEveryOrder(t *testing.T) {
	for _, seqs := range [][]int64{{1, 2, 3, 4}, {1, 256, 65536, 1 << 24}, {maxSeq, maxSeq - 1, 1, 2}, {0x7fffffff, 0xffff, 0xff, 0}, {0x10000, 0x0ffff, 0, 0}, {5, 0, 0, 0}, {0, 0, 0, 0}} {
		n := len(seqs)
		for i := range n * n * n * n {
			at := []int{i % n, i / n % n, i / n / n % n, i / n / n / n}
			x := many(7, seqs[at[0]], seqs[at[1]], seqs[at[2]], seqs[at[3]])
			check(t, x)
			check(t, with(x, func(t *api.Table) { t.Exts = append(t.Exts, api.Ext{}, api.Ext{Seq: 99}, api.Ext{}) }))
		}
	}
	var last []int64
	for i := range 8 { // eight of them, turned round
		seqs := []int64{8, 3, 6, 1, 7, 2, 5, 4}
		seqs = append(seqs[i:], seqs[:i]...)
		check(t, many(7, seqs...))
		last = append(last, Last(many(7, seqs...)))
	}
	if !slices.Equal(last, slices.Repeat([]int64{8}, 8)) {
		t.Error(last)
	}
}

// wholeTable is t, whose extents have spare room behind them.
func wholeTable(t api.Table) api.Table {
	spare := append(slices.Clone(t.Exts), slices.Repeat([]api.Ext{{Seq: 55, Len: 66}}, 10)...)
	t.Exts = spare[:len(t.Exts)]
	return t
}

// P3: what is handed in is not changed, nor its spare room, and not kept; what comes out is one's own, its spare room too.
func TestMemory(t *testing.T) {
	wrongOne := with(rightTables()[0], func(t *api.Table) { t.Exts[1].Len = 1 })
	nine := api.Table{Gen: 1, Open: -1, Exts: make([]api.Ext, 9)}
	for _, x := range append(rightTables()[:60], wrongOne, nine) {
		given := wholeTable(x)
		spare := given.Exts[:cap(given.Exts)]
		before := slices.Clone(spare)
		checkOwn(t, "Put", func() []byte { return Put(given) })
		checkOwn(t, "Order", func() []int { return Order(given) })
		checkOwn(t, "Free", func() []int { return Free(given) })
		s, order, free := Put(given), Order(given), Free(given)
		Right(given)
		Last(given)
		if !slices.Equal(spare, before) {
			t.Fatalf("%v: the extents, or what is behind them, have changed", x)
		}
		clear(spare)
		if !bytes.Equal(s, Put(x)) || !slices.Equal(order, Order(x)) || !slices.Equal(free, Free(x)) {
			t.Fatalf("%v: an answer has changed with the extents", x)
		}
	}
}

// P3: the same of Get.
func TestMemoryGet(t *testing.T) {
	for _, x := range rightTables()[:60] {
		whole := append(Put(x), bytes.Repeat([]byte{7}, 40)...)
		before := bytes.Clone(whole)
		checkOwn(t, "Get", func() []api.Ext {
			got, is := Get(whole[:sectorLen])
			if !is || !same(got, x) {
				t.Fatalf("Get = %v, %v; want %v", got, is, x)
			}
			return got.Exts
		})
		got, _ := Get(whole[:sectorLen])
		Get(whole)
		Get(whole[:63])
		if !bytes.Equal(whole, before) {
			t.Fatalf("%v: the sector, or what is behind it, has changed", x)
		}
		clear(whole)
		if !same(got, x) {
			t.Fatalf("%v: the answer has changed with the sector", x)
		}
	}
}

// checkOwn turns all that do answers, its spare room too, and looks whether another answer has changed.
func checkOwn[E byte | int | api.Ext](t *testing.T, name string, do func() []E) {
	t.Helper()
	first, second := do(), do()
	want := slices.Clone(second)
	clear(first[:cap(first)])
	if !slices.Equal(second, want) || !slices.Equal(do(), want) {
		t.Fatalf("%s: another answer has changed", name)
	}
}

// P3: what a call answers hangs on its argument alone, not on the calls ahead of it.
func TestAgain(t *testing.T) {
	l := rightTables()[:10]
	for range 3 {
		for _, x := range l {
			check(t, x)
			checkNone(t, make([]byte, sectorLen))
			check(t, api.Table{})
		}
	}
}

// tableOf is one of a few bytes: right ones and others.
func tableOf(b []byte, gen int64, open int) api.Table {
	t := api.Table{Gen: gen, Open: open}
	for ; len(b) >= 6; b = b[6:] {
		t.Exts = append(t.Exts, api.Ext{Seq: int64(binary.LittleEndian.Uint32(b)), Len: int(binary.LittleEndian.Uint16(b[4:]))})
	}
	return t
}

// FuzzTable holds every call to the plain words, whatever it is given.
func FuzzTable(f *testing.F) {
	f.Add([]byte(nil), int64(1), 0)
	f.Add(make([]byte, sectorLen), int64(7), -1)
	for _, x := range rightTables()[:30] {
		f.Add(Put(x), x.Gen, x.Open)
		f.Add(plainBytes(x)[6:], x.Gen, x.Open)
		f.Add(slices.Concat([]byte{byte(6 + 6*len(x.Exts))}, plainBytes(x), make([]byte, most)), x.Gen, x.Open)
	}
	f.Fuzz(func(t *testing.T, b []byte, gen int64, open int) {
		check(t, tableOf(b, gen, open))
		want, is := plainGet(b)
		checkGet(t, b, want, is)
		if len(b) >= 60 { // a sum that fits leads further in
			s := summed(int64(binary.LittleEndian.Uint32(b[1:])), 255, b[:60])
			want, is = plainGet(s)
			checkGet(t, s, want, is)
		}
	})
}
