package entry

import (
	"math"
	"slices"
	"strconv"
	"testing"

	"turntable/api"
)

// one is an entry of an Id, of which a Tick, a Seq and an At are chosen; all else hangs on the Id.
func one(id int64, tick int64, seq int64, at int) api.Entry {
	return api.Entry{
		Item:  api.Item{Id: id, Class: int(id & 7), Tick: tick, Cost: int(id&255) + 27, Pinned: id%3 == 0},
		Brief: api.Brief{Id: id, From: id & 4095, To: id&4095 + 100, Many: int(id&63) + 1, Services: []string{"db", "s" + strconv.FormatInt(id, 10)}},
		Seq:   seq, At: at, Size: int(id&255) + 20,
	}
}

// copied is an entry that shares nothing with e.
func copied(e api.Entry) api.Entry {
	e.Brief.Services = append([]string(nil), e.Brief.Services...)
	return e
}

func same(a, b api.Entry) bool {
	return a.Item == b.Item && a.Seq == b.Seq && a.At == b.At && a.Size == b.Size &&
		a.Brief.Id == b.Brief.Id && a.Brief.From == b.Brief.From && a.Brief.To == b.Brief.To && a.Brief.Many == b.Brief.Many &&
		slices.Equal(a.Brief.Services, b.Brief.Services)
}

// edges are numbers that an Id, a Tick, a Seq and the others may be: the least, the greatest, those about 0, and such as have the same last bits.
func edges() []int64 {
	return []int64{math.MinInt64, math.MinInt64 + 1, -1 << 48, -1<<32 + 1, -300, -2, -1, 0, 1, 2, 3, 44, 300, 1<<31 - 1, 1 << 31, 1<<32 + 1, 1<<32 + 300, 1<<48 - 1, 1 << 48, 1<<48 + 1, math.MaxInt64 - 1, math.MaxInt64}
}

// odds are entries that no trace would have, or hardly one.
func odds() []api.Entry {
	long := make([]string, 300)
	for i := range long {
		long[i] = strconv.Itoa(i * 7 % 50)
	}
	out := []api.Entry{
		{},
		{Brief: api.Brief{Id: 77, Services: []string{}}},
		{Item: api.Item{Id: 5}, Brief: api.Brief{Id: 6, Services: []string{"", "", "a"}}},
		{Item: api.Item{Id: 6, Class: -1, Tick: -5, Cost: -9, Pinned: true}, Brief: api.Brief{Id: 5, From: 9, To: 3, Many: -4, Services: []string{"z", "a", "z"}}, Seq: -7, At: -8, Size: -9},
		{Item: api.Item{Id: 7}, Brief: api.Brief{Services: long}},
	}
	for _, n := range edges() {
		out = append(out, api.Entry{
			Item:  api.Item{Id: n, Class: int(n), Tick: n, Cost: int(n), Pinned: n%2 == 0},
			Brief: api.Brief{Id: n, From: n, To: n, Many: int(n), Services: []string{"web"}},
			Seq:   n, At: int(n), Size: int(n),
		})
	}
	return out
}

// plain is an index by the chapter's words: a list of entries, in the order in which they came.
type plain []api.Entry

// where is the place of the entry of an Id, and -1 if there is none.
func (p plain) where(id int64) int {
	return slices.IndexFunc(p, func(e api.Entry) bool { return e.Item.Id == id })
}

// all puts each entry behind those so far that are not behind it.
func (p plain) all() []api.Entry {
	var out []api.Entry
	for _, e := range p {
		at := len(out)
		for at > 0 && (out[at-1].Item.Tick > e.Item.Tick || out[at-1].Item.Tick == e.Item.Tick && out[at-1].Item.Id > e.Item.Id) {
			at--
		}
		out = slices.Insert(out, at, e)
	}
	return out
}

// in puts each entry of a Seq behind those so far that are not behind it.
func (p plain) in(seq int64) []int64 {
	var l []api.Entry
	for _, e := range p {
		if e.Seq != seq {
			continue
		}
		at := len(l)
		for at > 0 && (l[at-1].At > e.At || l[at-1].At == e.At && l[at-1].Item.Id > e.Item.Id) {
			at--
		}
		l = slices.Insert(l, at, e)
	}
	return idsOf(l)
}

func idsOf(l []api.Entry) []int64 {
	var out []int64
	for _, e := range l {
		out = append(out, e.Item.Id)
	}
	return out
}

func itemsOf(l []api.Entry) []api.Item {
	var out []api.Item
	for _, e := range l {
		out = append(out, e.Item)
	}
	return out
}

// pair is an index, and one by the plain words, to which the same happens.
type pair struct {
	t *testing.T
	x *Index
	p plain
}

func newPair(t *testing.T, l ...api.Entry) *pair {
	t.Helper()
	c := &pair{t: t, x: New()}
	for _, e := range l {
		c.put(e)
	}
	return c
}

// told holds what a call told to what it should.
func (c *pair) told(call string, id int64, got bool, want bool) {
	c.t.Helper()
	if got != want {
		c.t.Fatalf("%s of %d: %v", call, id, got)
	}
}

func (c *pair) put(e api.Entry) {
	c.t.Helper()
	i, kept := c.p.where(e.Item.Id), copied(e)
	c.told("Put", e.Item.Id, c.x.Put(e), i >= 0)
	if !same(e, kept) {
		c.t.Fatalf("Put has changed %.400v to %.400v", kept, e)
	}
	if i >= 0 {
		c.p = slices.Delete(c.p, i, i+1)
	}
	c.p = append(c.p, kept)
}

func (c *pair) del(id int64) {
	c.t.Helper()
	i := c.p.where(id)
	c.told("Del", id, c.x.Del(id), i >= 0)
	if i >= 0 {
		c.p = slices.Delete(c.p, i, i+1)
	}
}

func (c *pair) pin(id int64, is bool) {
	c.t.Helper()
	i := c.p.where(id)
	c.told("Pin", id, c.x.Pin(id, is), i >= 0)
	if i >= 0 {
		c.p[i].Item.Pinned = is
	}
}

func (c *pair) class(id int64, class int) {
	c.t.Helper()
	i := c.p.where(id)
	c.told("Class", id, c.x.Class(id, class), i >= 0)
	if i >= 0 {
		c.p[i].Item.Class = class
	}
}

func (c *pair) move(id int64, seq int64, at int, size int) {
	c.t.Helper()
	i := c.p.where(id)
	c.told("Move", id, c.x.Move(id, seq, at, size), i >= 0)
	if i >= 0 {
		c.p[i].Seq, c.p[i].At, c.p[i].Size = seq, at, size
	}
}

// get holds what Get tells of an Id to the plain words.
func (c *pair) get(id int64) {
	c.t.Helper()
	got, is := c.x.Get(id)
	want, i := api.Entry{}, c.p.where(id)
	if i >= 0 {
		want = c.p[i]
	}
	if is != (i >= 0) || !same(got, want) {
		c.t.Fatalf("Get(%d) = %.400v, %v; want %.400v, %v", id, got, is, want, i >= 0)
	}
}

// check holds all that is told to the plain words: of each Id and each Seq that there is, of those beside it, and of those at the edges.
func (c *pair) check() {
	c.t.Helper()
	all := c.p.all()
	if got := c.x.Many(); got != len(all) {
		c.t.Fatalf("Many() = %d; want %d", got, len(all))
	}
	if got := c.x.All(); !slices.EqualFunc(got, all, same) {
		c.t.Fatalf("All() = %.800v; want %.800v", got, all)
	}
	if got := c.x.Items(); !slices.Equal(got, itemsOf(all)) {
		c.t.Fatalf("Items() = %.800v; want %.800v", got, itemsOf(all))
	}
	ids, seqs := edges(), edges()
	for _, e := range all {
		ids = append(ids, e.Item.Id-1, e.Item.Id, e.Item.Id+1, e.Brief.Id)
		seqs = append(seqs, e.Seq-1, e.Seq, e.Seq+1)
	}
	slices.Sort(ids)
	for _, id := range slices.Compact(ids) {
		c.get(id)
	}
	slices.Sort(seqs)
	var everywhere []int64
	for _, seq := range slices.Compact(seqs) {
		got := c.x.In(seq)
		if want := c.p.in(seq); !slices.Equal(got, want) {
			c.t.Fatalf("In(%d) = %v; want %v", seq, got, want)
		}
		everywhere = append(everywhere, got...)
	}
	slices.Sort(everywhere)
	want := idsOf(all)
	slices.Sort(want)
	if !slices.Equal(everywhere, want) {
		c.t.Fatalf("in all extents there are %v; want %v", everywhere, want)
	}
}

// orders calls do with a list in every order.
func orders(l []api.Entry, do func(l []api.Entry)) {
	var walk func(ahead, rest []api.Entry)
	walk = func(ahead, rest []api.Entry) {
		if len(rest) == 0 {
			do(ahead)
		}
		for i, e := range rest {
			walk(append(slices.Clone(ahead), e), slices.Delete(slices.Clone(rest), i, i+1))
		}
	}
	walk(nil, l)
}

// stir is n bytes that hang on seed alone.
func stir(seed uint32, n int) []byte {
	out := make([]byte, n)
	for i := range out {
		seed = seed*1664525 + 1013904223
		out[i] = byte(seed >> 24)
	}
	return out
}

// P14.1, N1 and N2: the chapter's example, of whatever Id: Put, Del, Get: none.
func TestExample(t *testing.T) {
	for _, id := range edges() {
		x := New()
		if x.Put(one(id, 2, 7, 40)) || !x.Del(id) {
			t.Error("Put, or Del", id)
		}
		if e, is := x.Get(id); is || !same(e, api.Entry{}) {
			t.Error(id, e, is)
		}
	}
}

// P14.1: entries that are known by hand, and all that is told of them.
func TestKnown(t *testing.T) {
	x := New()
	for _, e := range []api.Entry{one(5, 2, 7, 40), one(3, 9, 7, 10), one(4, 2, 8, 0), one(6, 1, 7, 40)} {
		if x.Put(e) {
			t.Error("Put", e)
		}
	}
	checkTold := func(many int, ids []int64, seven []int64, eight []int64) {
		t.Helper()
		if x.Many() != many || !slices.Equal(idsOf(x.All()), ids) || !slices.Equal(x.Items(), itemsOf(x.All())) || !slices.Equal(x.In(7), seven) || !slices.Equal(x.In(8), eight) || len(x.In(9)) != 0 {
			t.Error(x.Many(), x.All(), x.In(7), x.In(8), x.In(9))
		}
	}
	checkTold(4, []int64{6, 4, 5, 3}, []int64{3, 5, 6}, []int64{4})
	if !x.Move(3, 8, 0, 55) || !x.Pin(3, false) || !x.Class(3, 6) {
		t.Error("there is no 3")
	}
	checkTold(4, []int64{6, 4, 5, 3}, []int64{5, 6}, []int64{3, 4})
	want := api.Entry{
		Item:  api.Item{Id: 3, Class: 6, Tick: 9, Cost: 30},
		Brief: api.Brief{Id: 3, From: 3, To: 103, Many: 4, Services: []string{"db", "s3"}},
		Seq:   8, At: 0, Size: 55,
	}
	if e, is := x.Get(3); !is || !same(e, want) {
		t.Error(e, is)
	}
	if !x.Put(one(6, 5, 8, 7)) || !x.Del(4) || x.Del(4) || x.Pin(4, true) || x.Class(4, 1) || x.Move(4, 7, 0, 1) {
		t.Error("6 is not there, or 4 is")
	}
	checkTold(3, []int64{5, 6, 3}, []int64{5}, []int64{3, 6})
}

// P14.1: of an index of none nothing is told, and nothing in it is changed.
func TestNone(t *testing.T) {
	newPair(t).check()
	c := newPair(t)
	for _, id := range edges() {
		c.del(id)
		c.pin(id, true)
		c.pin(id, false)
		c.class(id, 3)
		c.move(id, 7, 8, 9)
		c.check()
	}
	// What was emptied is as what is new.
	for _, id := range edges() {
		c.put(one(id, 1, 2, 3))
	}
	for _, id := range edges() {
		c.del(id)
	}
	c.check()
	if c.x.Many() != 0 || len(c.x.All()) != 0 || len(c.x.Items()) != 0 || len(c.x.In(2)) != 0 {
		t.Error("there is something")
	}
}

// P14.1, N2 and P1: entries of all sorts are kept as they are, and again, wherever others are; an Id is the Item's, whatever the Brief has.
func TestPutOdd(t *testing.T) {
	whole := newPair(t)
	for _, e := range odds() {
		c := newPair(t)
		c.put(e)
		c.check()
		c.put(e)
		c.check()
		c.pin(e.Item.Id, !e.Item.Pinned)
		c.class(e.Item.Id, math.MaxInt)
		c.move(e.Item.Id, math.MinInt64, math.MaxInt, math.MinInt)
		c.check()
		whole.put(e)
		whole.check()
	}
	for _, e := range odds() {
		whole.put(e)
		whole.del(e.Item.Id)
		whole.check()
	}
}

// others are entries of e's Id that differ from it in one thing alone, and one that does in all.
func others(e api.Entry) []api.Entry {
	l := make([]api.Entry, 14)
	for i := range l {
		l[i] = copied(e)
	}
	l[0].Item.Class++
	l[1].Item.Tick++
	l[2].Item.Cost++
	l[3].Item.Pinned = !e.Item.Pinned
	l[4].Brief.Id++
	l[5].Brief.From++
	l[6].Brief.To++
	l[7].Brief.Many++
	l[8].Brief.Services[1] += "x"
	l[9].Brief.Services = nil
	l[10].Seq++
	l[11].At++
	l[12].Size++
	l[13] = api.Entry{
		Item:  api.Item{Id: e.Item.Id, Class: e.Item.Class + 1, Tick: e.Item.Tick - 9, Cost: 1, Pinned: !e.Item.Pinned},
		Brief: api.Brief{Id: 1000, From: 1001, To: 1002, Many: 1003, Services: []string{"c", "b", "a"}},
		Seq:   e.Seq + 2, At: e.At + 2, Size: 1004,
	}
	return l
}

// P14.1 and P14.2: an entry put where there was one of its Id takes its place in all that it has; others are as they were.
func TestPutAgain(t *testing.T) {
	few := []api.Entry{one(1, 5, 3, 10), one(2, 5, 3, 10), one(3, 6, 3, 11), one(4, 4, 4, 9)}
	for _, e := range few {
		for _, other := range others(e) {
			c := newPair(t, few...)
			c.put(other)
			c.check()
			c.put(e)
			c.check()
			c.put(other)
			c.put(other)
			c.check()
			c.del(e.Item.Id)
			c.check()
			// What one of the Id had ahead of a Del does not come back.
			c.put(e)
			c.check()
		}
	}
}

// P14.1, N2: Pin, Class and Move of what is there, to whatever it has already, and of what is not; each changes its own things of that one alone.
func TestChange(t *testing.T) {
	few := []api.Entry{one(1, 5, 3, 10), one(2, 5, 3, 10), one(3, 6, 3, 11), one(4, 4, 4, 9), one(-7, 5, 3, 10), one(0, 5, 4, 9)}
	for _, e := range few {
		id := e.Item.Id
		c := newPair(t, few...)
		for _, is := range []bool{e.Item.Pinned, !e.Item.Pinned, !e.Item.Pinned, e.Item.Pinned} {
			c.pin(id, is)
			c.check()
		}
		c.class(id, e.Item.Class)
		c.move(id, e.Seq, e.At, e.Size)
		c.check()
		for _, n := range edges() {
			c.class(id, int(n))
			c.check()
			c.move(id, n, e.At, e.Size)
			c.check()
			c.move(id, e.Seq, int(n), e.Size)
			c.check()
			c.move(id, e.Seq, e.At, int(n))
			c.check()
			c.move(id, n, int(n), int(n))
			c.check()
		}
	}
	for _, id := range []int64{math.MinInt64, -1, 5, 6, 1<<32 + 1, math.MaxInt64} {
		c := newPair(t, few...)
		c.pin(id, true)
		c.pin(id, false)
		c.class(id, 0)
		c.class(id, 7)
		c.move(id, 3, 10, 20)
		c.del(id)
		c.check()
	}
}

// P14.1, N2: Del of each of some, in every order, of what was deleted, and of what was never there.
func TestDel(t *testing.T) {
	few := []api.Entry{one(1, 5, 3, 10), one(2, 5, 3, 10), one(3, 6, 4, 11), one(0, 4, 4, 9)}
	orders(few, func(l []api.Entry) {
		c := newPair(t, few...)
		for _, e := range l {
			c.del(e.Item.Id)
			c.check()
			c.del(e.Item.Id)
			c.del(e.Item.Id + 1<<32)
			c.pin(e.Item.Id, true)
			c.class(e.Item.Id, 1)
			c.move(e.Item.Id, 3, 1, 1)
			c.check()
		}
	})
}

// P14.3: All and Items tell all by Tick, and by Id where Ticks are alike, in whatever order they were put.
func TestAllOrder(t *testing.T) {
	check := func(want ...api.Entry) {
		t.Helper()
		orders(want, func(l []api.Entry) {
			c := newPair(t, l...)
			if got := idsOf(c.x.All()); !slices.Equal(got, idsOf(want)) {
				t.Fatalf("%v; want %v", got, idsOf(want))
			}
			if got := c.x.Items(); !slices.Equal(got, itemsOf(want)) {
				t.Fatalf("%v; want %v", got, itemsOf(want))
			}
		})
	}
	check(one(9, 1, 9, 9), one(8, 2, 8, 8), one(7, 3, 7, 7), one(6, 4, 6, 6), one(5, 5, 5, 5))
	check(one(1, 4, 9, 9), one(2, 4, 8, 8), one(3, 4, 7, 7), one(4, 4, 6, 6), one(5, 4, 5, 5))
	check(one(5, 1, 1, 9), one(2, 4, 1, 5), one(3, 4, 1, 4), one(9, 4, 1, 1), one(1, 5, 1, 0))
	check(one(math.MinInt64, 4, 0, 0), one(-1, 4, 0, 0), one(0, 4, 0, 0), one(1, 4, 0, 0), one(math.MaxInt64, 4, 0, 0)) // differences would wrap round
	check(one(5, math.MinInt64, 0, 0), one(4, -1, 0, 0), one(3, 0, 0, 0), one(2, 1, 0, 0), one(1, math.MaxInt64, 0, 0))
	check(one(5, 1, 0, 0), one(6, 1, 0, 0), one(1<<32+5, 1, 0, 0), one(4, 1<<32, 0, 0), one(3, 1<<32+1, 0, 0))
}

// P14.3: In tells those of one extent by At, and by Id where these are alike, in whatever order they were put; others count for nothing.
func TestInOrder(t *testing.T) {
	check := func(others []api.Entry, want ...api.Entry) {
		t.Helper()
		orders(want, func(l []api.Entry) {
			c := newPair(t, l...)
			for _, e := range others {
				c.put(e)
			}
			if got := c.x.In(want[0].Seq); !slices.Equal(got, idsOf(want)) {
				t.Fatalf("%v; want %v", got, idsOf(want))
			}
			c.check()
		})
	}
	beside := []api.Entry{one(70, 0, 6, 0), one(71, 0, 8, 0), one(72, 0, 0, 0), one(73, 0, -7, 0), one(74, 0, 7+1<<32, 0)}
	check(beside, one(9, 9, 7, 1), one(8, 8, 7, 2), one(7, 7, 7, 3), one(6, 6, 7, 4))
	check(beside, one(1, 9, 7, 4), one(2, 8, 7, 4), one(3, 7, 7, 4), one(4, 6, 7, 4))
	check(beside, one(5, 9, 7, 0), one(2, 8, 7, 4), one(3, 1, 7, 4), one(1, 0, 7, 5))
	check(beside, one(4, 9, 7, math.MinInt), one(3, 8, 7, -1), one(2, 7, 7, 0), one(1, 6, 7, math.MaxInt))
	check(beside, one(math.MinInt64, 9, 7, 3), one(-1, 8, 7, 3), one(0, 7, 7, 3), one(math.MaxInt64, 6, 7, 3))
	check(beside[3:], one(4, 9, 0, 1), one(3, 8, 0, 2))
	check(nil, one(4, 9, math.MinInt64, 1), one(3, 8, math.MinInt64, 2))
	check(nil, one(4, 9, math.MaxInt64, 1), one(3, 8, math.MaxInt64, 2))
	check(nil, one(4, 9, -1, 1))
}

// P14.3: what is moved is in the extent that it was moved to alone; each is in just one, whatever their records have.
func TestInMoved(t *testing.T) {
	c := newPair(t)
	for i := range int64(30) {
		c.put(one(i, i*7%11, 2+i%3, int(i*5%8)))
	}
	for i := range int64(60) {
		c.move(i%30, 2+i*i%4, int(i*3%7), 9)
		c.check()
	}
	for i := range int64(30) {
		c.move(i, 2, 0, 9)
	}
	if got := c.x.In(2); len(got) != 30 || !slices.IsSorted(got) || len(c.x.In(3)) != 0 {
		t.Error(got, c.x.In(3))
	}
	c.check()
}

// P14.1 to P14.3: very many, with like Ticks, and like Ats, of which some go, and some are moved.
func TestMany(t *testing.T) {
	const n = 3000
	c := newPair(t)
	for i := range int64(n) {
		c.put(one(i*1237%n, i%50, 2+i%5, int(i%40)))
	}
	c.check()
	for i := int64(0); i < n; i += 2 {
		c.del(i)
	}
	for i := range int64(n) {
		c.move(i, 3+i%5, int(i%30), int(i))
		c.pin(i, i%7 < 3)
		c.class(i, int(i%8))
	}
	c.check()
	if c.x.Many() != n/2 {
		t.Error(c.x.Many())
	}
}

// P14.2: of two traces, and of all that may happen to them, each row of up to four things.
func TestRows(t *testing.T) {
	var things []func(c *pair)
	for id := int64(1); id <= 2; id++ {
		things = append(things,
			func(c *pair) { c.put(one(id, 5, 3, 8)) },
			func(c *pair) { c.put(one(id, 9-3*id, 4, 9)) },
			func(c *pair) { c.del(id) },
			func(c *pair) { c.pin(id, true) },
			func(c *pair) { c.pin(id, false) },
			func(c *pair) { c.class(id, 6) },
			func(c *pair) { c.move(id, 4, 9, 30) },
		)
	}
	var walk func(row []int)
	walk = func(row []int) {
		c := newPair(t)
		for _, i := range row {
			things[i](c)
		}
		c.check()
		for i := range things {
			if len(row) < 4 {
				walk(append(slices.Clone(row), i))
			}
		}
	}
	walk(nil)
}

// play has happen what bytes say, seven of them a thing, and holds all that is told to the plain words behind each one.
func play(c *pair, b []byte) {
	c.t.Helper()
	number := func(n byte) int64 {
		if n >= 224 {
			return edges()[int(n)%len(edges())]
		}
		return int64(n % 12)
	}
	for ; len(b) >= 7; b = b[7:] {
		id, tick, seq, at, size := number(b[1]), number(b[2]), number(b[3]), int(number(b[4])), int(number(b[5]))
		switch b[0] % 8 {
		case 0, 1, 2:
			e := one(id, tick, seq, at)
			e.Item.Class, e.Item.Pinned, e.Size = size, b[6]%2 == 0, int(b[6])
			for i := range b[6] % 4 {
				e.Brief.Services = append(e.Brief.Services, strconv.Itoa(int(i)+at))
			}
			c.put(e)
		case 3:
			c.del(id)
		case 4:
			c.pin(id, b[6]%2 == 0)
		case 5:
			c.class(id, at)
		default:
			c.move(id, seq, at, size)
		}
		c.check()
	}
}

// P14.2: long rows of all things, among few Ids, Ticks, Seqs and Ats, and those at the edges.
func TestPlay(t *testing.T) {
	for seed := range uint32(200) {
		play(newPair(t), stir(seed, 7*60))
	}
	play(newPair(t), stir(4711, 7*5000))
}

// FuzzIndex holds an index to the plain words, whatever happens to it.
func FuzzIndex(f *testing.F) {
	f.Add([]byte{})
	f.Add([]byte("\x00\x01\x02\x03\x04\x05\x06\x03\x01\x00\x00\x00\x00\x00"))
	f.Add([]byte("\x00\xe0\xe0\xe0\xe0\xe0\xe0\x06\xe0\x00\xff\xff\xff\xff\x00\xe1\xe0\xff\xff\xff\xff"))
	f.Add(stir(9, 7*20))
	f.Fuzz(func(t *testing.T, b []byte) { play(newPair(t), b) })
}

// P3: an entry that is handed in is not changed, nor its Services' spare room; and it is not kept: to change it later, or its Services, changes nothing.
func TestHandedIn(t *testing.T) {
	names := []string{"c", "e", "d", "b", "a"}
	for many := range len(names) + 1 {
		for _, there := range []int64{4, 5} { // there is none of its Id, and there is one
			whole := slices.Clone(names)
			e := one(5, 2, 7, 40)
			e.Brief.Services = whole[:many]
			before := copied(e)
			c := newPair(t, one(there, 2, 7, 40))
			c.put(e)
			c.x.All()
			c.x.Get(5)
			c.pin(5, true)
			c.class(5, 6)
			c.move(5, 6, 7, 8)
			if !same(e, before) || !slices.Equal(whole, names) {
				t.Fatalf("%v, %v; want %v, %v", e, whole, before, names)
			}
			clear(whole)
			e.Item, e.Seq, e.Brief.Id = api.Item{}, 99, 99
			c.check()
		}
	}
	// One list of Services may be handed in with several entries.
	services := []string{"a", "b"}
	c := newPair(t)
	for id := range int64(5) {
		e := one(id, 1, 1, 1)
		e.Brief.Services = services
		c.put(e)
	}
	services[0] = "z"
	c.check()
	l := c.x.All()
	for i := range l {
		l[i].Brief.Services[0] = strconv.Itoa(i)
	}
	c.check()
}

// spoil changes all that a list of entries has, with its spare room, and that of their Services.
func spoil(l []api.Entry) {
	for i := range l {
		services := l[i].Brief.Services
		services = services[:cap(services)]
		for k := range services {
			services[k] = "spoilt"
		}
	}
	l = l[:cap(l)]
	for i := range l {
		l[i] = api.Entry{Seq: 99}
	}
}

// P3: what is handed out is new memory, its spare room and its Services too: to change it changes neither the index, nor what was handed out else; nor does the index change it later.
func TestHandedOut(t *testing.T) {
	for n := range int64(12) {
		c := newPair(t)
		for id := range n {
			e := one(id, id%4, 7, int(id*3%5))
			e.Brief.Services = e.Brief.Services[:id%3]
			c.put(e)
		}
		want, in := c.p.all(), c.p.in(7)
		for i := range want {
			want[i] = copied(want[i])
		}
		all, items, ids := c.x.All(), c.x.Items(), c.x.In(7)
		var each []api.Entry
		for id := range n {
			e, _ := c.x.Get(id)
			each = append(each, e)
		}
		checkKept := func(when string) {
			t.Helper()
			if !slices.EqualFunc(all, want, same) || !slices.Equal(items, itemsOf(want)) || !slices.Equal(ids, in) {
				t.Fatalf("%d entries: %s has changed what was handed out: %v, %v, %v", n, when, all, items, ids)
			}
			for id, e := range each {
				if i := slices.IndexFunc(want, func(w api.Entry) bool { return w.Item.Id == int64(id) }); !same(e, want[i]) {
					t.Fatalf("%d entries: %s has changed what was handed out of %d: %v", n, when, id, e)
				}
			}
		}
		spoil(c.x.All())
		checkKept("All")
		for id := range n {
			e, _ := c.x.Get(id)
			spoil([]api.Entry{e})
		}
		checkKept("Get")
		otherItems, otherIds := c.x.Items(), c.x.In(7)
		clear(otherItems[:cap(otherItems)])
		clear(otherIds[:cap(otherIds)])
		checkKept("Items, or In,")
		c.check()
		for id := range n {
			c.pin(id, id%3 != 0)
			c.class(id, 99)
			c.move(id, 8, 99, 99)
		}
		checkKept("Pin, Class, or Move")
		for id := range n {
			c.put(one(id, 99, 9, 99))
		}
		for id := range n {
			c.del(id)
		}
		checkKept("Put, or Del,")
		c.check()
	}
}

// P3: no two lists of one answer share anything.
func TestAnswerApart(t *testing.T) {
	c := newPair(t)
	for id := range int64(9) {
		c.put(one(id, id%4, 7, 1))
	}
	for i := range 9 {
		all, want := c.x.All(), c.p.all()
		services := all[i].Brief.Services
		services = services[:cap(services)]
		for k := range services {
			services[k] = "spoilt"
		}
		for k := range all {
			if k != i && !same(all[k], want[k]) {
				t.Fatalf("%d and %d share their Services", i, k)
			}
		}
	}
	c.check()
}

// P3: to ask changes nothing, and the same is told each time, whatever order a map is gone through in; and of alike indexes, however they came to be so.
func TestAgain(t *testing.T) {
	c := newPair(t)
	for id := range int64(40) {
		c.put(one(id, id%3, 2+id%2, int(id%4)))
	}
	back := newPair(t)
	for id := int64(39); id >= 0; id-- {
		back.put(one(id, 99, 99, 99))
		back.put(one(id+100, id%3, 2+id%2, int(id%4)))
	}
	for id := range int64(40) {
		back.del(id + 100)
		back.put(one(id, id%3, 9, 9))
		back.move(id, 2+id%2, int(id%4), one(id, 0, 0, 0).Size)
	}
	all, items, even, odd := c.x.All(), c.x.Items(), c.x.In(2), c.x.In(3)
	for range 50 {
		for _, x := range []*Index{c.x, back.x} {
			x.Get(7)
			x.Get(-7)
			if !slices.EqualFunc(x.All(), all, same) || !slices.Equal(x.Items(), items) || !slices.Equal(x.In(2), even) || !slices.Equal(x.In(3), odd) || len(x.In(9)) != 0 || x.Many() != 40 {
				t.Fatal("something else is told")
			}
		}
	}
	c.check()
	back.check()
}

// P3: what happens to an index is not told of another one.
func TestTwo(t *testing.T) {
	a, b := newPair(t), newPair(t)
	e := one(5, 2, 7, 40)
	a.put(e)
	b.check()
	b.put(e)
	b.put(one(6, 1, 7, 3))
	a.check()
	a.pin(5, true)
	b.class(5, 0)
	b.move(5, 9, 9, 9)
	a.check()
	b.check()
	a.del(5)
	a.check()
	b.check()
	newPair(t).check()
}
