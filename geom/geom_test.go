package geom

import (
	"bytes"
	"math"
	"slices"
	"testing"

	"turntable/api"
	"turntable/dev"
	"turntable/frame"
	"turntable/table"
	"turntable/tape"
)

const (
	sectorRoom = 57   // how many bytes of a tape a sector has room for
	maxBody    = 3600 // how many bytes a frame may have
	allSectors = 4096 // how many sectors a device may have
)

// plainRight is the chapter's words for a Geo that is right.
func plainRight(g api.Geo) bool {
	switch {
	case g.Exts != 4 && g.Exts != 5 && g.Exts != 6 && g.Exts != 7 && g.Exts != 8:
		return false
	case g.Sectors < 1 || g.Sectors > 64:
		return false
	case g.Max < 64 || g.Max > sectorRoom*g.Sectors || g.Max > maxBody:
		return false
	}
	return true
}

// plainFirst goes from extent to extent, and counts their sectors.
func plainFirst(g api.Geo, ext int) int {
	at := 2
	for i := range g.Exts {
		if i == ext {
			return at
		}
		at += g.Sectors
	}
	return 0
}

// plainBudget is the chapter's words for what all traces of a right Geo may cost.
func plainBudget(g api.Geo) int {
	more := sectorRoom*g.Sectors - g.Max
	budget := -57 * g.Exts
	for range g.Exts - 3 {
		budget += more
	}
	if budget < 0 {
		return 0
	}
	return budget
}

// places are numbers that are told to be those of extents: each that is, of any Geo, and others about them, and at the edges.
func places() []int {
	return []int{math.MinInt, math.MinInt + 1, -1 << 32, -1<<32 + 1, -257, -9, -8, -4, -2, -1, 0, 1, 2, 3, 4, 5, 6, 7, 8, 9, 10, 16, 255, 256, 257, 1 << 16, 1<<16 + 1, 1 << 32, 1<<32 + 1, math.MaxInt - 1, math.MaxInt}
}

// check holds every call to the chapter's words, of one Geo.
func check(t *testing.T, g api.Geo) {
	t.Helper()
	if !plainRight(g) {
		checkWrong(t, g)
		return
	}
	if !Right(g) {
		t.Fatalf("Right(%+v) = false", g)
	}
	if got, want := Size(g), plainFirst(g, g.Exts-1)+g.Sectors; got != want {
		t.Fatalf("Size(%+v) = %d; want %d", g, got, want)
	}
	if got, want := Room(g), sectorRoom*g.Sectors; got != want {
		t.Fatalf("Room(%+v) = %d; want %d", g, got, want)
	}
	if got, want := Budget(g), plainBudget(g); got != want {
		t.Fatalf("Budget(%+v) = %d; want %d", g, got, want)
	}
	for _, ext := range places() {
		if got, want := First(g, ext), plainFirst(g, ext); got != want {
			t.Fatalf("First(%+v, %d) = %d; want %d", g, ext, got, want)
		}
	}
	checkBlank(t, Blank(g), g.Exts)
}

// checkBlank holds a table to the first one of so many extents.
func checkBlank(t *testing.T, x api.Table, exts int) {
	t.Helper()
	if x.Gen != 1 || x.Open != -1 || len(x.Exts) != exts {
		t.Fatalf("a blank table of %d extents: %+v", exts, x)
	}
	for _, e := range x.Exts {
		if e.Seq != 0 || e.Len != 0 {
			t.Fatalf("a blank table of %d extents: %+v", exts, x)
		}
	}
}

// checkWrong holds every call to 0, of a Geo that is not right.
func checkWrong(t *testing.T, g api.Geo) {
	t.Helper()
	if Right(g) {
		t.Fatalf("Right(%+v) = true", g)
	}
	if size, room, budget := Size(g), Room(g), Budget(g); size != 0 || room != 0 || budget != 0 {
		t.Fatalf("of %+v, which is not right: Size %d, Room %d, Budget %d", g, size, room, budget)
	}
	for _, ext := range places() {
		if got := First(g, ext); got != 0 {
			t.Fatalf("First(%+v, %d) = %d; it is not right", g, ext, got)
		}
	}
	if x := Blank(g); x.Gen != 0 || x.Open != 0 || len(x.Exts) != 0 {
		t.Fatalf("Blank(%+v) = %+v; it is not right", g, x)
	}
}

// everyRight calls do with each Geo that is right.
func everyRight(do func(g api.Geo)) {
	for exts := 4; exts <= 8; exts++ {
		for sectors := 1; sectors <= 64; sectors++ {
			for most := 64; most <= min(sectorRoom*sectors, maxBody); most++ {
				do(api.Geo{Exts: exts, Sectors: sectors, Max: most})
			}
		}
	}
}

// rightLayouts calls do with a Geo of each Exts and each Sectors that may be, of the least Max.
func rightLayouts(do func(g api.Geo)) {
	everyRight(func(g api.Geo) {
		if g.Max == 64 {
			do(g)
		}
	})
}

// wrongExts are none that a Geo may have; of many the last bits are those of one that is right.
func wrongExts() []int {
	return []int{math.MinInt, math.MinInt + 4, -1 << 32, -1<<32 + 4, 8 - 1<<16, 4 - 256, -8, -5, -4, -1, 0, 1, 2, 3, 9, 10, 16, 127, 128, 256, 256 + 4, 1<<16 + 8, 1 << 31, 1 << 32, 1<<32 + 4, math.MaxInt - 1, math.MaxInt}
}

func wrongSectors() []int {
	return []int{math.MinInt, math.MinInt + 10, -1 << 32, -1<<32 + 10, 10 - 1<<16, 10 - 256, -64, -10, -1, 0, 65, 66, 74, 100, 127, 128, 256 + 10, 1<<16 + 10, 1 << 31, 1 << 32, 1<<32 + 10, math.MaxInt / 57, math.MaxInt/57 + 1, math.MaxInt / 8, math.MaxInt / 4, math.MaxInt - 1, math.MaxInt}
}

// wrongMaxes are none that a Geo of so many sectors may have.
func wrongMaxes(sectors int) []int {
	out := []int{math.MinInt, math.MinInt + 100, -1 << 32, -1<<32 + 100, 100 - 1<<16, 100 - 256, -100, -64, -1, 0, 1, 57, 62, 63, 3601, 3602, 3647, 3648, 3649, 1<<16 + 100, 1 << 31, 1 << 32, 1<<32 + 100, math.MaxInt - 1, math.MaxInt}
	if 0 < sectors && sectors < 64 {
		out = append(out, sectorRoom*sectors+1, sectorRoom*sectors+2, 64*sectors, 3600)
	}
	return out
}

// rightMaxes are some that a Geo of so many sectors may have: the least, the greatest, and others.
func rightMaxes(sectors int) []int {
	greatest := min(sectorRoom*sectors, maxBody)
	return []int{64, 65, (64 + greatest) / 2, greatest - 1, greatest}
}

// P17.1, Q1: the chapter's example.
func TestExample(t *testing.T) {
	g := api.Geo{Exts: 4, Sectors: 10, Max: 100}
	if got := Budget(g); got != 242 {
		t.Error(got)
	}
}

// P17.1, Q1: Geos of which all is known by hand; a budget of 0 stands beside those that are just above it, and below.
func TestKnown(t *testing.T) {
	for _, c := range []struct {
		g                        api.Geo
		size, last, room, budget int
	}{
		{api.Geo{Exts: 4, Sectors: 10, Max: 100}, 42, 32, 570, 242},
		{api.Geo{Exts: 4, Sectors: 2, Max: 64}, 10, 8, 114, 0},
		{api.Geo{Exts: 4, Sectors: 2, Max: 114}, 10, 8, 114, 0},
		{api.Geo{Exts: 4, Sectors: 64, Max: 64}, 258, 194, 3648, 3356},
		{api.Geo{Exts: 4, Sectors: 64, Max: 3600}, 258, 194, 3648, 0},
		{api.Geo{Exts: 8, Sectors: 2, Max: 64}, 18, 16, 114, 0},
		{api.Geo{Exts: 8, Sectors: 64, Max: 64}, 514, 450, 3648, 17464},
		{api.Geo{Exts: 8, Sectors: 64, Max: 100}, 514, 450, 3648, 17284},
		{api.Geo{Exts: 8, Sectors: 64, Max: 3600}, 514, 450, 3648, 0},
		{api.Geo{Exts: 8, Sectors: 63, Max: 3591}, 506, 443, 3591, 0},
		{api.Geo{Exts: 4, Sectors: 10, Max: 341}, 42, 32, 570, 1},
		{api.Geo{Exts: 4, Sectors: 10, Max: 342}, 42, 32, 570, 0},
		{api.Geo{Exts: 4, Sectors: 10, Max: 343}, 42, 32, 570, 0},
		{api.Geo{Exts: 5, Sectors: 10, Max: 427}, 52, 42, 570, 1},
		{api.Geo{Exts: 5, Sectors: 10, Max: 428}, 52, 42, 570, 0},
		{api.Geo{Exts: 6, Sectors: 10, Max: 455}, 62, 52, 570, 3},
		{api.Geo{Exts: 6, Sectors: 10, Max: 456}, 62, 52, 570, 0},
		{api.Geo{Exts: 7, Sectors: 10, Max: 470}, 72, 62, 570, 1},
		{api.Geo{Exts: 7, Sectors: 10, Max: 471}, 72, 62, 570, 0},
		{api.Geo{Exts: 8, Sectors: 10, Max: 478}, 82, 72, 570, 4},
		{api.Geo{Exts: 8, Sectors: 10, Max: 479}, 82, 72, 570, 0},
	} {
		if !Right(c.g) || Size(c.g) != c.size || First(c.g, 0) != 2 || First(c.g, c.g.Exts-1) != c.last || Room(c.g) != c.room || Budget(c.g) != c.budget {
			t.Errorf("%+v: %v, Size %d, First of the last one %d, Room %d, Budget %d", c.g, Right(c.g), Size(c.g), First(c.g, c.g.Exts-1), Room(c.g), Budget(c.g))
		}
		check(t, c.g)
	}
}

// P17.1, Q1: every Geo that is right.
func TestEveryRight(t *testing.T) {
	n := 0
	everyRight(func(g api.Geo) {
		check(t, g)
		n++
	})
	if n < 500000 {
		t.Error("only", n)
	}
}

// P17.1, Q1: a Geo of which one of the three is wrong is not right, whatever right ones the others are.
func TestOneWrong(t *testing.T) {
	rightLayouts(func(g api.Geo) {
		for _, most := range rightMaxes(g.Sectors) {
			for _, exts := range wrongExts() {
				checkWrong(t, api.Geo{Exts: exts, Sectors: g.Sectors, Max: most})
			}
		}
		for _, most := range wrongMaxes(g.Sectors) {
			checkWrong(t, api.Geo{Exts: g.Exts, Sectors: g.Sectors, Max: most})
		}
		for _, sectors := range wrongSectors() {
			for _, most := range rightMaxes(64) {
				checkWrong(t, api.Geo{Exts: g.Exts, Sectors: sectors, Max: most})
			}
		}
	})
	for exts := 4; exts <= 8; exts++ { // one sector has room for 57, which is no Max
		for _, most := range append(rightMaxes(64), 56, 57, 58, 63) {
			checkWrong(t, api.Geo{Exts: exts, Sectors: 1, Max: most})
		}
	}
}

// P17.1, Q1: a Geo of which two of the three are wrong, or all, is not right either.
func TestMoreWrong(t *testing.T) {
	checkWrong(t, api.Geo{})
	for _, exts := range wrongExts() {
		for _, sectors := range wrongSectors() {
			for _, most := range slices.Concat(rightMaxes(64), wrongMaxes(sectors)) {
				checkWrong(t, api.Geo{Exts: exts, Sectors: sectors, Max: most})
			}
		}
		for _, sectors := range []int{1, 2, 10, 63, 64} {
			for _, most := range wrongMaxes(sectors) {
				checkWrong(t, api.Geo{Exts: exts, Sectors: sectors, Max: most})
			}
		}
	}
	for _, sectors := range wrongSectors() {
		for _, most := range wrongMaxes(sectors) {
			for exts := 4; exts <= 8; exts++ {
				checkWrong(t, api.Geo{Exts: exts, Sectors: sectors, Max: most})
			}
		}
	}
}

// P17.1, Q1: all small numbers, and each edge beside each other.
func TestEdges(t *testing.T) {
	for exts := -2; exts <= 12; exts++ {
		for sectors := -2; sectors <= 70; sectors++ {
			for _, most := range slices.Concat(rightMaxes(sectors), wrongMaxes(sectors)) {
				check(t, api.Geo{Exts: exts, Sectors: sectors, Max: most})
			}
		}
	}
	for sectors := range 66 {
		for most := -3; most <= 3700; most++ {
			check(t, api.Geo{Exts: 4 + most&3, Sectors: sectors, Max: most})
		}
	}
}

// P17.1, Q1: Room is tape.Room, and a Max may be as much, or MaxBody.
func TestTapeRoom(t *testing.T) {
	for sectors := 2; sectors <= 64; sectors++ {
		room := tape.Room(sectors)
		for exts := 4; exts <= 8; exts++ {
			for _, most := range []int{64, min(room, api.MaxBody)} {
				g := api.Geo{Exts: exts, Sectors: sectors, Max: most}
				if !Right(g) || Room(g) != room {
					t.Fatalf("%+v: %v, Room %d; want %d", g, Right(g), Room(g), room)
				}
			}
			checkWrong(t, api.Geo{Exts: exts, Sectors: sectors, Max: room + 1})
		}
	}
}

// P17.2: each sector behind 0 and 1 is of one extent, up to Size, and those two are of none.
func TestApart(t *testing.T) {
	rightLayouts(func(g api.Geo) {
		owners := make([]int, Size(g))
		for ext := range g.Exts {
			for i := range g.Sectors {
				owners[First(g, ext)+i]++ // one that is not within would panic
			}
		}
		want := append([]int{0, 0}, slices.Repeat([]int{1}, g.Exts*g.Sectors)...)
		if !slices.Equal(owners, want) {
			t.Fatalf("%+v: so many extents have each sector: %v", g, owners)
		}
	})
}

// P17.2: a device of Size has a tape on each extent, all of them full, and none of them touches another, nor the sectors 0 and 1; where a sector is missing, there is no last one.
func TestTapes(t *testing.T) {
	rightLayouts(func(g api.Geo) {
		if Size(g) > allSectors {
			t.Fatalf("%+v: Size %d", g, Size(g))
		}
		d := dev.New(Size(g))
		for ext := range g.Exts {
			// Of one number, so that a tape that is written over could tell what is another one's.
			x := tape.New(d, First(g, ext), g.Sectors, 7)
			if x == nil || x.Append(bytes.Repeat([]byte{byte(ext + 1)}, Room(g))) != api.OK || x.Left() != 0 {
				t.Fatalf("%+v: no tape on %d", g, ext)
			}
		}
		for ext := range g.Exts {
			b, e := tape.Read(d, First(g, ext), g.Sectors, 7)
			if e != api.OK || !bytes.Equal(b, bytes.Repeat([]byte{byte(ext + 1)}, Room(g))) {
				t.Fatalf("%+v: on %d there stands %.100x, %v", g, ext, b, e)
			}
		}
		for i := range 2 {
			if s, e := d.Read(i); e != api.OK || !bytes.Equal(s, make([]byte, api.Sector)) {
				t.Fatalf("%+v: the sector %d is %x", g, i, s)
			}
		}
		if tape.New(dev.New(Size(g)-1), First(g, g.Exts-1), g.Sectors, 7) != nil {
			t.Fatalf("%+v: a device of fewer sectors has all extents", g)
		}
	})
}

// P17.3: in numbers alone: so many extents, less 1, are needed only if all of them but one are filled until the longest frame has no room, and one more byte is there; no budget has as much, even with all that may be left out.
func TestRoomCounted(t *testing.T) {
	everyRight(func(g api.Geo) {
		least := (g.Exts-2)*(Room(g)-g.Max+1) + 1 - 57*g.Exts
		if Budget(g) >= least && Budget(g) > 0 {
			t.Fatalf("%+v: %d bytes may need one extent more; the budget is %d", g, least, Budget(g))
		}
	})
}

// packed are extents that are filled, one behind the other.
type packed struct {
	room   int
	needed int // how many extents are needed
	left   int // how many bytes the last of them has room for
}

// put has a frame stand in the last extent, or in the next one, where it has no room.
func (p *packed) put(size int) {
	if p.needed == 0 || p.left < size {
		p.needed++
		p.left = p.room
	}
	p.left -= size
}

// leave leaves bytes out, as many as there are.
func (p *packed) leave(n int) { p.left -= min(n, p.left) }

// stir is a row of numbers that hang on seed alone.
func stir(seed *uint64) int {
	*seed = *seed*6364136223846793005 + 1442695040888963407
	return int(*seed >> 33)
}

// sizes are rows of frames' lengths, 2 to most, told one by one, by how many bytes the extent that is filled has left.
func sizes(most int, seed uint64) []func(left int) int {
	i := 0
	return []func(left int) int{
		func(int) int { return most },
		func(int) int { return 2 },
		func(int) int { return 2 + stir(&seed)%(most-1) },
		func(int) int { return most/2 + 1 },
		func(int) int { i++; return []int{2, most}[i%2] },
		func(int) int { i++; return []int{most, most, 2 + stir(&seed)%20}[i%3] },
		// What is left is one less than the longest frame as soon as may be.
		func(left int) int {
			if left < most {
				return most
			}
			return max(2, min(most, left-most+1))
		},
		// One byte more than there is left, where there may be so long a frame.
		func(left int) int { return max(2, min(most, left+1)) },
	}
}

// leaves are ways to leave bytes out, as many times as there are Exts: so many behind a frame, of those that may still be.
func leaves(seed uint64) []func() int {
	return []func() int{
		func() int { return 0 },
		func() int { return 1 },
		func() int { return 100 },
		func() int { return stir(&seed) % 2 },
		func() int { return stir(&seed) % 10 / 9 },
	}
}

// needs is how many extents a budget's frames need.
func needs(g api.Geo, size func(left int) int, leave func() int, out func() int) int {
	p := packed{room: Room(g)}
	may := g.Exts
	for budget := Budget(g); budget >= 2; {
		n := min(size(p.left), budget)
		p.put(n)
		budget -= n
		for range min(leave(), may) {
			p.leave(out())
			may--
		}
	}
	return p.needed
}

// P17.3: rows of frames of many sorts, of every few Geos: they need no more extents than Exts, less 2.
func TestRoom(t *testing.T) {
	n, seed := 0, uint64(17)
	everyRight(func(g api.Geo) {
		if n++; n%29 != 0 || Budget(g) == 0 {
			return
		}
		for i, size := range sizes(g.Max, seed) {
			for j, leave := range leaves(seed) {
				for _, out := range []func() int{func() int { return 57 }, func() int { return stir(&seed) % 58 }} {
					if got := needs(g, size, leave, out); got > g.Exts-2 {
						t.Fatalf("%+v: the frames %d with the leaves %d need %d extents", g, i, j, got)
					}
				}
			}
		}
	})
}

// state is what hangs together when frames are chosen: what is packed, how many bytes the budget still has, and how many times some may be left out.
type state struct {
	p      packed
	budget int
	may    int
}

// most is how many extents are needed at most, whichever frames and leaves are chosen of some from here on.
func (s state) most(sizes []int, known map[state]int) int {
	if n, is := known[s]; is {
		return n
	}
	out := s.p.needed
	for _, size := range sizes {
		if size <= s.budget {
			next := s
			next.p.put(size)
			next.budget -= size
			out = max(out, next.most(sizes, known))
		}
	}
	if s.may > 0 && s.p.left > 0 {
		next := s
		next.p.leave(57)
		next.may--
		out = max(out, next.most(sizes, known))
	}
	known[s] = out
	return out
}

// P17.3: the same of each choice of frames, and of where bytes are left out; of three extents' bytes more, such a choice is seen to need more.
func TestRoomChosen(t *testing.T) {
	for _, g := range []api.Geo{
		{Exts: 4, Sectors: 10, Max: 100}, {Exts: 4, Sectors: 12, Max: 64}, {Exts: 4, Sectors: 14, Max: 250},
		{Exts: 5, Sectors: 5, Max: 64}, {Exts: 5, Sectors: 6, Max: 100}, {Exts: 5, Sectors: 10, Max: 150}, {Exts: 5, Sectors: 12, Max: 200},
		{Exts: 6, Sectors: 5, Max: 64}, {Exts: 6, Sectors: 6, Max: 100}, {Exts: 6, Sectors: 8, Max: 200}, {Exts: 6, Sectors: 10, Max: 300},
		{Exts: 7, Sectors: 5, Max: 100}, {Exts: 7, Sectors: 6, Max: 150}, {Exts: 7, Sectors: 8, Max: 200},
		{Exts: 8, Sectors: 5, Max: 100}, {Exts: 8, Sectors: 6, Max: 150}, {Exts: 8, Sectors: 8, Max: 250}, {Exts: 8, Sectors: 10, Max: 300},
	} {
		sizes := []int{g.Max, g.Max - 1, g.Max / 2, 20}
		s := state{p: packed{room: Room(g)}, budget: Budget(g), may: g.Exts}
		if n := s.most(sizes, map[state]int{}); n > g.Exts-2 || n < 1 {
			t.Errorf("%+v: %d extents are needed", g, n)
		}
		s.budget += 3 * Room(g)
		if n := s.most(sizes[:2], map[state]int{}); n <= g.Exts-2 {
			t.Errorf("%+v: of %d bytes no more than %d extents are needed", g, s.budget, n)
		}
	}
}

// P17.3: the same of frames that stand on tapes, with Syncs between them: all of them are read.
func TestRoomOnTapes(t *testing.T) {
	seed := uint64(3)
	rightLayouts(func(g api.Geo) {
		for _, g.Max = range rightMaxes(g.Sectors) {
			for _, size := range sizes(g.Max, seed)[:6] {
				checkTapes(t, g, size, &seed)
			}
		}
	})
}

// checkTapes puts a budget's frames on tapes, of the extents one behind the other, and reads them.
func checkTapes(t *testing.T, g api.Geo, size func(left int) int, seed *uint64) {
	t.Helper()
	d := dev.New(Size(g))
	var x *tape.Tape
	var bodies [][]byte
	needed, may, budget := 0, g.Exts, Budget(g)
	for budget >= 2 {
		b := frame.Put(body(min(size(0), budget), byte(len(bodies))))
		if x == nil || x.Left() < len(b) {
			x = tape.New(d, First(g, needed), g.Sectors, int64(needed+1))
			needed++
		}
		if x == nil || needed > g.Exts-2 || x.Append(b) != api.OK {
			t.Fatalf("%+v: the %d-th frame needs %d extents", g, len(bodies), needed)
		}
		bodies = append(bodies, b)
		budget -= len(b)
		if may > 0 && stir(seed)%2 == 0 {
			x.Sync()
			may--
		}
	}
	var read []byte
	for ext := range needed {
		b, _ := tape.Read(d, First(g, ext), g.Sectors, int64(ext+1))
		read = append(read, b...)
	}
	if !bytes.Equal(read, bytes.Join(bodies, nil)) {
		t.Fatalf("%+v: another %d bytes are read, on %d extents", g, len(read), needed)
	}
}

// body is one whose frame is size bytes, or one less, where there is none such.
func body(size int, c byte) []byte {
	n := size
	for frame.Size(n) > size {
		n--
	}
	return bytes.Repeat([]byte{c}, n)
}

// P17.1, Q1: a blank table is right, with all extents free, and there is a sector of it.
func TestBlankTable(t *testing.T) {
	rightLayouts(func(g api.Geo) {
		x := Blank(g)
		if !table.Right(x) || len(table.Free(x)) != g.Exts || len(table.Order(x)) != 0 || table.Last(x) != 0 {
			t.Fatalf("%+v: %+v", g, x)
		}
		got, is := table.Get(table.Put(x))
		if !is || got.Gen != 1 || got.Open != -1 || !slices.Equal(got.Exts, x.Exts) {
			t.Fatalf("%+v: its sector has %+v, %v", g, got, is)
		}
	})
}

// P3: a blank table is one's own, its spare room too.
func TestMemory(t *testing.T) {
	for exts := 4; exts <= 8; exts++ {
		g := api.Geo{Exts: exts, Sectors: 10, Max: 100}
		first, second := Blank(g), Blank(g)
		for i := range first.Exts[:cap(first.Exts)] {
			first.Exts[:cap(first.Exts)][i] = api.Ext{Seq: 5, Len: 6}
		}
		checkBlank(t, second, exts)
		checkBlank(t, Blank(g), exts)
		second.Exts = append(second.Exts, api.Ext{Seq: 7, Len: 8})
		checkBlank(t, Blank(g), exts)
		for more := 4; more <= 8; more++ {
			checkBlank(t, Blank(api.Geo{Exts: more, Sectors: 2, Max: 64}), more)
		}
	}
}

// P3: what a call answers hangs on its arguments alone, not on the calls ahead of it.
func TestAgain(t *testing.T) {
	for range 3 {
		for _, g := range []api.Geo{{Exts: 4, Sectors: 10, Max: 100}, {}, {Exts: 8, Sectors: 64, Max: 3600}, {Exts: 9, Sectors: 64, Max: 3600}, {Exts: 4, Sectors: 2, Max: 64}, {Exts: 8, Sectors: 2, Max: 115}} {
			check(t, g)
		}
	}
}

// FuzzGeom holds every call to the plain words, whatever it is given.
func FuzzGeom(f *testing.F) {
	for _, g := range []api.Geo{{Exts: 4, Sectors: 10, Max: 100}, {}, {Exts: 8, Sectors: 64, Max: 3600}, {Exts: 9, Sectors: 65, Max: 3601}, {Exts: 3, Sectors: 0, Max: 63}, {Exts: 5, Sectors: 2, Max: 114}} {
		for _, ext := range []int{-1, 0, g.Exts - 1, g.Exts, math.MaxInt} {
			f.Add(g.Exts, g.Sectors, g.Max, ext)
		}
	}
	f.Fuzz(func(t *testing.T, exts int, sectors int, most int, ext int) {
		g := api.Geo{Exts: exts, Sectors: sectors, Max: most}
		check(t, g)
		// The same within the bounds, where chance seldom leads.
		near := api.Geo{Exts: exts & 15, Sectors: sectors & 127, Max: most & 4095}
		check(t, near)
		for _, g := range []api.Geo{g, near} {
			want := 0
			if plainRight(g) {
				want = plainFirst(g, ext)
			}
			if got := First(g, ext); got != want {
				t.Fatalf("First(%+v, %d) = %d; want %d", g, ext, got, want)
			}
		}
	})
}
