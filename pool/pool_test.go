package pool

import (
	"fmt"
	"math"
	"slices"
	"strings"
	"testing"

	"turntable/api"
	"turntable/rec"
	"turntable/span"
	"turntable/trace"
)

const maxNumber = 1 << 48

// anyCost is a MOST that no trace costs.
const anyCost = 1 << 20

// of is a span of a trace, of an Id, that began then. Of numbers below 128 it takes 8 bytes, so that a trace of n of them costs 17 and 8 times n.
func of(trace int64, id int64, start int64) api.Span {
	return api.Span{Trace: trace, Id: id, Start: start, Service: "s"}
}

// row is n spans of a trace, in its order, some of which began together: it costs 17 and 8 times n.
func row(trace int64, n int) []api.Span {
	l := make([]api.Span, n)
	for i := range l {
		l[i] = of(trace, int64(100-i/2*2+i%2), int64(i/2))
	}
	return l
}

// larges are n spans in a trace's order that take as many bytes as they may: 101 each.
func larges(n int) []api.Span {
	l := make([]api.Span, n)
	for i := range l {
		l[i] = api.Span{Trace: maxNumber, Id: maxNumber - int64(n-i), Parent: maxNumber, Start: maxNumber / 2, Dur: maxNumber/2 - int64(i), Service: strings.Repeat("\xff", 32), Name: strings.Repeat("\x00", 32)}
	}
	return l
}

// heads are a span of each of n traces, from the number 1 on.
func heads(n int) []api.Span {
	l := make([]api.Span, n)
	for i := range l {
		l[i] = of(int64(i+1), 1, 0)
	}
	return l
}

// edges are numbers that a trace may be asked for by: the least, the greatest, those about 0 and about the bounds of what is right, and such as have the same last bits.
func edges() []int64 {
	return []int64{math.MinInt64, -1 << 48, -1<<32 + 1, -1, 0, 1, 2, 63, 64, 65, 1 << 31, 1 << 32, 1<<32 + 1, maxNumber - 1, maxNumber, maxNumber + 1, math.MaxInt64}
}

// spoils make a right span one that is not right, each for a reason of its own, and have it keep its Trace and its Id where they are not the reason.
func spoils() []func(s *api.Span) {
	return []func(s *api.Span){
		func(s *api.Span) { s.Trace = 0 }, func(s *api.Span) { s.Trace = -s.Trace }, func(s *api.Span) { s.Trace = maxNumber + 1 }, func(s *api.Span) { s.Trace = math.MinInt64 }, func(s *api.Span) { s.Trace += 1 << 49 },
		func(s *api.Span) { s.Id = 0 }, func(s *api.Span) { s.Id = -s.Id }, func(s *api.Span) { s.Id = maxNumber + 1 }, func(s *api.Span) { s.Id = math.MaxInt64 },
		func(s *api.Span) { s.Parent = -1 }, func(s *api.Span) { s.Parent = maxNumber + 1 },
		func(s *api.Span) { s.Start = -1 }, func(s *api.Span) { s.Start = maxNumber + 1 },
		func(s *api.Span) { s.Dur = -1 }, func(s *api.Span) { s.Dur = maxNumber - s.Start + 1 }, func(s *api.Span) { s.Dur = math.MaxInt64 },
		func(s *api.Span) { s.Service = "" }, func(s *api.Span) { s.Service = strings.Repeat("s", 33) }, func(s *api.Span) { s.Name = strings.Repeat("n", 33) },
		func(s *api.Span) { *s = api.Span{} },
	}
}

// wrongs are spans that are not right, each for a reason of its own, and of s's Trace and Id where these are not it.
func wrongs(s api.Span) []api.Span {
	var out []api.Span
	for _, spoil := range spoils() {
		o := s
		spoil(&o)
		out = append(out, o)
	}
	return out
}

// plain is a pool by the chapter's words: all spans, in the order in which they came.
type plain struct {
	most  int
	spans []api.Span
}

// plainOf are those of a trace, each behind those that it is not ahead of.
func plainOf(spans []api.Span, id int64) []api.Span {
	var out []api.Span
	for _, s := range spans {
		if s.Trace != id {
			continue
		}
		at := len(out)
		for at > 0 && (out[at-1].Start > s.Start || out[at-1].Start == s.Start && out[at-1].Id > s.Id) {
			at--
		}
		out = slices.Insert(out, at, s)
	}
	return out
}

// plainIds are the numbers of the traces of spans, the least first.
func plainIds(spans []api.Span) []int64 {
	var out []int64
	for _, s := range spans {
		out = append(out, s.Trace)
	}
	slices.Sort(out)
	return slices.Compact(out)
}

// plainCost is 16, the byte of how many there are, and the bytes of each.
func plainCost(l []api.Span) int {
	cost := 17
	for _, s := range l {
		cost += len(span.Put(nil, s))
	}
	return cost
}

// plainError is what one span has for an error, where all these are gathered.
func plainError(spans []api.Span, s api.Span, most int) api.Errno {
	if !span.Right(s) {
		return api.ErrArg
	}
	l := plainOf(spans, s.Trace)
	for _, o := range l {
		if o.Id == s.Id {
			return api.ErrThere
		}
	}
	if len(l) == 64 {
		return api.ErrTooMany
	}
	if len(l) == 0 && len(plainIds(spans)) == 64 {
		return api.ErrTooMany
	}
	if plainCost(append(l, s)) > most {
		return api.ErrBig
	}
	return api.OK
}

func (q *plain) add(l []api.Span) api.Errno {
	spans := slices.Clone(q.spans)
	for _, s := range l {
		if e := plainError(spans, s, q.most); e != api.OK {
			return e
		}
		spans = append(spans, s)
	}
	q.spans = spans
	return api.OK
}

func (q *plain) take(id int64) bool {
	before := len(q.spans)
	q.spans = slices.DeleteFunc(slices.Clone(q.spans), func(s api.Span) bool { return s.Trace == id })
	return len(q.spans) < before
}

// some tells how many spans there are, and the first ones.
func some(l []api.Span) string { return fmt.Sprintf("%d spans: %v", len(l), l[:min(len(l), 8)]) }

// pair is a pool, and one by the plain words, to which the same happens.
type pair struct {
	t *testing.T
	p *Pool
	q plain
}

// newPair is a pair that has these spans already, added one by one.
func newPair(t *testing.T, most int, l ...api.Span) *pair {
	t.Helper()
	c := &pair{t: t, p: New(most), q: plain{most: most}}
	for _, s := range l {
		c.want(api.OK, s)
	}
	return c
}

// add adds spans, holds what is told to the plain words, and tells it.
func (c *pair) add(l ...api.Span) api.Errno {
	c.t.Helper()
	before := slices.Clone(l)
	got := c.p.Add(l)
	if want := c.q.add(l); got != want {
		c.t.Fatalf("Add(%s) = %v; want %v", some(l), got, want)
	}
	if !slices.Equal(l, before) {
		c.t.Fatalf("Add has changed %s to %s", some(before), some(l))
	}
	return got
}

// want adds spans, of which this must be told.
func (c *pair) want(e api.Errno, l ...api.Span) {
	c.t.Helper()
	if got := c.add(l...); got != e {
		c.t.Fatalf("Add(%s) = %v; want %v", some(l), got, e)
	}
}

func (c *pair) take(id int64) {
	c.t.Helper()
	if got, want := c.p.Take(id), c.q.take(id); got != want {
		c.t.Fatalf("Take(%d) = %v", id, got)
	}
}

// check holds all that is told to the plain words: of each trace that there is, of those beside it, and of those at the edges.
func (c *pair) check() {
	c.t.Helper()
	want := plainIds(c.q.spans)
	if got := c.p.Ids(); !slices.Equal(got, want) {
		c.t.Fatalf("Ids() = %v; want %v", got, want)
	}
	if got := c.p.Many(); got != len(want) {
		c.t.Fatalf("Many() = %d; want %d", got, len(want))
	}
	ids := edges()
	for _, id := range want {
		ids = append(ids, id-1, id, id+1, id+1<<32, -id)
	}
	slices.Sort(ids)
	for _, id := range slices.Compact(ids) {
		c.get(id)
	}
}

// get holds what is told of a trace to the plain words; what there is must be right, and within MOST.
func (c *pair) get(id int64) {
	c.t.Helper()
	l, is := c.p.Get(id)
	if want := plainOf(c.q.spans, id); !slices.Equal(l, want) || is != (len(want) > 0) {
		c.t.Fatalf("Get(%d) = %s, %v; want %s", id, some(l), is, some(want))
	}
	if is && (!trace.Right(l) || l[0].Trace != id || rec.Cost(l) > c.q.most) {
		c.t.Fatalf("Get(%d) = %s: this costs %d, of %d, and is right: %v", id, some(l), rec.Cost(l), c.q.most, trace.Right(l))
	}
}

// orders calls do with a list in every order.
func orders(l []api.Span, do func(l []api.Span)) {
	var walk func(ahead, rest []api.Span)
	walk = func(ahead, rest []api.Span) {
		if len(rest) == 0 {
			do(ahead)
		}
		for i, s := range rest {
			walk(append(slices.Clone(ahead), s), slices.Delete(slices.Clone(rest), i, i+1))
		}
	}
	walk(nil, l)
}

// parted calls do with a list parted into Adds in every way.
func parted(l []api.Span, do func(parts [][]api.Span)) {
	for cuts := range 1 << max(len(l)-1, 0) {
		var parts [][]api.Span
		from := 0
		for i := range l {
			if i == len(l)-1 || cuts>>i&1 == 1 {
				parts = append(parts, l[from:i+1])
				from = i + 1
			}
		}
		do(parts)
	}
}

// stir is n bytes that hang on seed alone.
func stir(seed uint32, n int) []byte {
	out := make([]byte, n)
	for i := range out {
		seed = seed*1664525 + 1013904223
		out[i] = byte(seed >> 24)
	}
	return out
}

// P16.1, P2: the chapter's example: one span twice, in one Add, or in two.
func TestExample(t *testing.T) {
	s := of(5, 1, 300)
	c := newPair(t, anyCost)
	c.want(api.ErrThere, s, s)
	c.check()
	c.want(api.OK, s)
	c.want(api.ErrThere, s)
	c.want(api.ErrThere, s, s)
	c.check()
}

// P16.1 to P16.3: what is known by hand: spans of some traces, in no order, and all that is told of them.
func TestKnown(t *testing.T) {
	p := New(41) // three spans of 8 bytes each
	checkTold := func(ids []int64, seven ...api.Span) {
		t.Helper()
		l, is := p.Get(7)
		if !slices.Equal(p.Ids(), ids) || p.Many() != len(ids) || !slices.Equal(l, seven) || is != (len(seven) > 0) {
			t.Fatal(p.Ids(), p.Many(), l, is)
		}
	}
	checkAdd := func(want api.Errno, l ...api.Span) {
		t.Helper()
		if got := p.Add(l); got != want {
			t.Fatal(l, got)
		}
	}
	checkTold(nil)
	checkAdd(api.OK, of(7, 2, 50), of(3, 9, 0), of(7, 1, 50))
	checkTold([]int64{3, 7}, of(7, 1, 50), of(7, 2, 50))
	checkAdd(api.ErrBig, of(2, 1, 0), of(7, 3, 10), of(7, 4, 9))
	checkTold([]int64{3, 7}, of(7, 1, 50), of(7, 2, 50))
	checkAdd(api.OK, of(2, 1, 0), of(7, 3, 10))
	checkTold([]int64{2, 3, 7}, of(7, 3, 10), of(7, 1, 50), of(7, 2, 50))
	checkAdd(api.ErrBig, of(7, 4, 9))
	checkAdd(api.ErrThere, of(3, 1, 0), of(7, 2, 60))
	checkAdd(api.ErrArg, of(3, 1, 0), api.Span{})
	if !p.Take(7) || p.Take(7) || p.Take(8) {
		t.Fatal("Take")
	}
	checkTold([]int64{2, 3})
	checkAdd(api.OK, of(7, 4, 9))
	checkTold([]int64{2, 3, 7}, of(7, 4, 9))
	if l, is := p.Get(3); !is || !slices.Equal(l, []api.Span{of(3, 9, 0)}) {
		t.Fatal(l, is)
	}
}

// P16.1, P1 and P3: of a pool of no traces, of whatever MOST, nothing is told, and none taken; an Add of no spans is OK, and gathers none.
func TestNone(t *testing.T) {
	for _, most := range []int{math.MinInt, -1, 0, 1, 24, 25, anyCost, math.MaxInt} {
		c := newPair(t, most)
		c.check()
		c.want(api.OK)
		if e := c.p.Add([]api.Span{}); e != api.OK {
			t.Error(e)
		}
		for _, id := range edges() {
			c.take(id)
		}
		c.check()
		if c.p.Many() != 0 || len(c.p.Ids()) != 0 {
			t.Error(c.p.Many(), c.p.Ids())
		}
	}
	c := newPair(t, anyCost, row(7, 3)...)
	c.want(api.OK)
	c.check()
}

// P16.1, P2 and P16.3: a trace may cost MOST, and not one more, in one Add or in several, and whatever other traces cost.
func TestMost(t *testing.T) {
	for _, l := range [][]api.Span{row(5, 1), row(5, 2), row(5, 3), row(5, 63), row(5, 64), larges(1), larges(2), larges(35), larges(36), larges(64)} {
		cost, last := plainCost(l), len(l)-1
		for _, most := range []int{cost, cost + 1, cost + 100, 1 << 32, math.MaxInt} {
			c := newPair(t, most)
			c.want(api.OK, l...)
			c.check()
			c = newPair(t, most, l[:last]...)
			c.want(api.OK, l[last])
			c.check()
		}
		for _, most := range []int{cost - 1, cost - 2} {
			c := newPair(t, most)
			c.want(api.ErrBig, l...)
			c.check()
			c.want(api.OK, l[:last]...)
			c.check()
			c.want(api.ErrBig, l[last])
			c.want(api.ErrBig, l[last], of(90, 1, 0))
			c.want(api.ErrBig, of(90, 1, 0), l[last])
			c.check()
		}
		for _, most := range []int{math.MinInt, -1 << 32, -cost, -1, 0, 1, 16, 17, 24} {
			c := newPair(t, most)
			c.want(api.ErrBig, l[0])
			c.want(api.ErrBig, l...)
			c.check()
		}
	}
	// Each trace has MOST for itself.
	c := newPair(t, 25)
	c.want(api.OK, heads(64)...)
	c.check()
}

// P16.1, P2: each thing that a span takes bytes for counts for what its trace costs, up to the last byte.
func TestMostBytes(t *testing.T) {
	for _, change := range []func(s *api.Span){
		func(s *api.Span) { s.Trace = 128 }, func(s *api.Span) { s.Trace = maxNumber }, func(s *api.Span) { s.Id = 128 }, func(s *api.Span) { s.Id = maxNumber },
		func(s *api.Span) { s.Parent = 127 }, func(s *api.Span) { s.Parent = 300 }, func(s *api.Span) { s.Start = maxNumber }, func(s *api.Span) { s.Dur = 16384 },
		func(s *api.Span) { s.Service = "db" }, func(s *api.Span) { s.Service = strings.Repeat("s", 32) }, func(s *api.Span) { s.Name = "n" }, func(s *api.Span) { s.Name = strings.Repeat("n", 32) },
	} {
		s := of(5, 1, 0)
		change(&s)
		cost := 17 + len(span.Put(nil, s))
		newPair(t, cost).want(api.OK, s)
		newPair(t, cost-1).want(api.ErrBig, s)
		other := of(s.Trace, 77, 0)
		cost += len(span.Put(nil, other))
		newPair(t, cost, other).want(api.OK, s)
		newPair(t, cost-1, other).want(api.ErrBig, s)
	}
}

// P16.1, P2 and P16.2: a span that is not right, for whatever reason, is ErrArg ahead of others, among them, behind them and alone; of its trace or of a new one.
func TestNotRight(t *testing.T) {
	l := []api.Span{of(5, 2, 9), of(6, 1, 0), of(5, 1, 3)}
	for _, wrong := range wrongs(of(5, 3, 7)) {
		for _, c := range []*pair{newPair(t, anyCost), newPair(t, anyCost, of(5, 4, 1), of(7, 3, 1)), newPair(t, 0)} {
			c.want(api.ErrArg, wrong)
			c.check()
		}
		for at := range len(l) + 1 {
			c := newPair(t, anyCost, of(5, 4, 1), of(7, 3, 1))
			c.want(api.ErrArg, slices.Insert(slices.Clone(l), at, wrong)...)
			c.check()
			c.want(api.OK, l...)
			c.check()
		}
	}
	// What is right stays so up to the bounds.
	for _, s := range []api.Span{of(maxNumber, maxNumber, maxNumber), of(1, 1, 0), larges(1)[0], {Trace: 1, Id: 1, Dur: maxNumber, Service: strings.Repeat("\x00", 32)}} {
		c := newPair(t, anyCost)
		c.want(api.OK, s)
		c.check()
	}
}

// P16.1, P2: an Id that the trace has, of this Add or one before, wherever it stands there and whatever else the span has, is ErrThere; another trace may have it.
func TestThere(t *testing.T) {
	for _, n := range []int{1, 2, 3, 10} {
		l := row(5, n)
		for i, s := range l {
			for _, other := range []api.Span{s, of(5, s.Id, 0), of(5, s.Id, s.Start+1), of(5, s.Id, maxNumber), {Trace: 5, Id: s.Id, Parent: 8, Start: 4, Dur: 9, Service: "db", Name: "n"}} {
				c := newPair(t, anyCost)
				c.want(api.ErrThere, append(slices.Clone(l), other)...)
				c.want(api.ErrThere, slices.Insert(slices.Clone(l), i, other)...)
				c.check()
				c.want(api.OK, l...)
				c.want(api.ErrThere, other)
				c.want(api.ErrThere, of(5, 1, 0), other)
				c.want(api.ErrThere, other, of(5, 1, 0))
				c.check()
				other.Trace = 6
				c.want(api.OK, other)
				c.check()
			}
		}
	}
	// Two traces may have all Ids alike, and come one among the other.
	var both []api.Span
	for i, s := range row(5, 64) {
		both = append(both, s, row(6, 64)[63-i])
	}
	c := newPair(t, anyCost)
	c.want(api.OK, both...)
	c.check()
	// Ids of the same last bits are not alike; those that are of another trace count for nothing.
	c = newPair(t, anyCost, of(5, 1, 0), of(6, 2, 0), of(1<<32+5, 3, 0))
	c.want(api.OK, of(5, 1<<32+1, 0), of(5, 257, 0), of(5, 2, 0), of(5, 3, 0))
	c.check()
}

// checkTooMany holds that the last one of l is too many, and the others are not, however they are parted into two Adds, and with whatever stands beside it; then is what happens behind that.
func checkTooMany(t *testing.T, l []api.Span, beside api.Span, then func(c *pair, from int)) {
	t.Helper()
	most := len(l) - 1
	last := l[most]
	for from := range len(l) {
		c := newPair(t, anyCost)
		c.want(api.OK, l[:from]...)
		c.want(api.ErrTooMany, l[from:]...)
		c.check()
		c.want(api.OK, l[from:most]...)
		c.check()
		c.want(api.ErrTooMany, last)
		c.want(api.ErrTooMany, beside, last)
		c.want(api.ErrTooMany, last, beside)
		c.check()
		then(c, from)
	}
}

// P16.1, P2 and P16.2: a trace has 64 spans, and not one more, however they are parted into Adds; another one may have more.
func TestSpansTooMany(t *testing.T) {
	for _, last := range []api.Span{of(5, 102, 99), of(5, 1, 0), of(5, 103, 3)} { // behind all others, ahead of them, and among them
		checkTooMany(t, append(row(5, 64), last), of(6, 1, 0), func(c *pair, from int) {
			c.want(api.OK, of(6, 1, 0))
			c.check()
		})
	}
	c := newPair(t, anyCost, row(5, 64)...)
	c.want(api.ErrTooMany, of(5, 1, 0))
	c.check()
}

// P16.1, P2 and P16.2: there are 64 traces, and not one more, however they are parted into Adds; those that are there may have more spans, and behind a Take there is room for one.
func TestTracesTooMany(t *testing.T) {
	for _, last := range []api.Span{of(65, 1, 0), of(maxNumber, 1, 0), of(1<<32+1, 2, 0)} {
		checkTooMany(t, append(heads(64), last), of(7, 2, 0), func(c *pair, from int) {
			c.want(api.OK, of(1, 2, 0), of(64, 2, 0), of(33, 2, 0))
			c.check()
			c.take(int64(from%64 + 1))
			c.want(api.ErrTooMany, last, of(99, 1, 0))
			c.want(api.OK, last)
			c.check()
			c.want(api.ErrTooMany, of(99, 1, 0))
			c.check()
		})
	}
	// As many spans as there may be at all, one trace among the other.
	var all []api.Span
	for i := range 64 {
		for id := range int64(64) {
			all = append(all, row(64-id, 64)[i])
		}
	}
	c := newPair(t, anyCost)
	c.want(api.OK, all...)
	c.check()
	for id := range int64(66) {
		c.want(api.ErrTooMany, of(id+1, 1, 0))
	}
	c.check()
}

// P16.1, P2: of a span that has several errors the one is told that the words name first.
func TestWhichError(t *testing.T) {
	full, most := row(5, 64), 17+8*64
	check := func(want api.Errno, most int, there []api.Span, s api.Span) {
		t.Helper()
		c := newPair(t, most, there...)
		c.want(want, s)
		c.check()
	}
	for _, wrong := range wrongs(full[0]) { // not right, there, too many, too big
		check(api.ErrArg, most, full, wrong)
		check(api.ErrArg, most, full[:1], wrong)
		check(api.ErrArg, 25, full[:1], wrong)
	}
	for _, wrong := range wrongs(of(65, 1, 0)) {
		check(api.ErrArg, 25, heads(64), wrong)
	}
	for _, s := range full {
		s.Name = strings.Repeat("n", 32)
		check(api.ErrThere, most, full, s) // there are 64, and it would cost too much
		check(api.ErrThere, anyCost, full, s)
	}
	check(api.ErrThere, 25, full[:1], full[0])
	check(api.ErrThere, 25, heads(64), of(64, 1, 9)) // there are 64 traces, and it would cost too much
	check(api.ErrTooMany, most, full, of(5, 1, 0))   // it would cost too much
	check(api.ErrTooMany, 25, heads(64), of(65, 300, 0))
	check(api.ErrBig, 25, heads(64), of(64, 2, 0)) // its trace is there
	check(api.ErrBig, most-1, full[:63], full[63])
}

// P16.1, P2: of several spans that each have an error, the first one's is told, in l's order, whatever stands among them.
func TestFirstError(t *testing.T) {
	there := append(heads(63), row(99, 2)...) // 64 traces, of which one costs most
	wrong := []api.Span{{}, of(3, 1, 5), of(70, 1, 0), row(99, 3)[2]}
	told := []api.Errno{api.ErrArg, api.ErrThere, api.ErrTooMany, api.ErrBig}
	for i, s := range wrong {
		newPair(t, 33, there...).want(told[i], s)
	}
	orders(wrong, func(l []api.Span) {
		first := told[slices.Index(wrong, l[0])]
		c := newPair(t, 33, there...)
		c.want(first, l...)
		c.want(first, l[:2]...)
		c.want(first, of(4, 2, 0), of(9, 7, 1), l[0], of(4, 3, 0), l[1], of(5, 2, 0), l[2], l[3])
		c.check()
	})
	// What came first is there, and what comes later is wrong, or is not, by that alone.
	c := newPair(t, 33)
	c.want(api.ErrThere, of(1, 1, 0), of(1, 1, 0), api.Span{})
	c.want(api.ErrArg, of(1, 1, 0), api.Span{}, of(1, 1, 0))
	c.want(api.ErrBig, of(1, 1, 0), of(1, 2, 0), of(1, 3, 0), of(1, 1, 0))
	c.want(api.ErrThere, of(1, 1, 0), of(1, 2, 0), of(1, 1, 0), of(1, 3, 0))
	c.check()
}

// P16.2: wherever among others a span stands that has an error, of whichever kind, nothing of l was gathered, however often; without it all are.
func TestAllOrNone(t *testing.T) {
	there := append(heads(62), row(99, 3)...) // 63 traces, of which one costs most but for 8
	good := []api.Span{of(4, 9, 9), of(70, 3, 3), of(4, 8, 9), of(99, 1, 0), of(70, 2, 3), of(62, 9, 0)}
	for _, wrong := range []api.Span{{}, of(4, 0, 0), of(3, 1, 5), of(4, 1, 0), of(71, 1, 0), of(99, 300, 3), {Trace: 62, Id: 5, Name: strings.Repeat("n", 32), Service: "s"}} {
		for at := range len(good) + 1 {
			l := slices.Insert(slices.Clone(good), at, wrong)
			c := newPair(t, 49, there...)
			for range 3 {
				if e := c.add(l...); e == api.OK {
					t.Fatal(l)
				}
				c.check()
			}
			c.want(api.OK, good...)
			c.check()
		}
	}
	c := newPair(t, 49, there...)
	c.want(api.OK, good...)
	c.check()
}

// P16.2: an Add that has an error leaves what a trace had, though spans of l come ahead of, among and behind those; the next one begins with that.
func TestNoneOfTrace(t *testing.T) {
	for n := 1; n <= 9; n++ {
		all := row(5, 2*n)
		var even, odd []api.Span
		for i, s := range all {
			if i%2 == 0 {
				even = append(even, s)
			} else {
				odd = append(odd, s)
			}
		}
		c := newPair(t, anyCost, even...)
		for range 3 {
			c.want(api.ErrArg, append(slices.Clone(odd), api.Span{})...)
			c.want(api.ErrThere, append(slices.Clone(odd), even[0])...)
			c.want(api.ErrThere, append(slices.Clone(odd), odd[0])...)
			c.check()
		}
		c.want(api.OK, odd...)
		c.check()
		if l, _ := c.p.Get(5); !slices.Equal(l, all) {
			t.Fatal(l)
		}
	}
}

// P16.1, P1: Get tells a trace's spans in its order, in whatever order and in however many Adds they came.
func TestOrder(t *testing.T) {
	for _, want := range [][]api.Span{
		{of(5, 9, 1), of(5, 8, 2), of(5, 7, 3), of(5, 6, 4), of(5, 5, 5)},
		{of(5, 1, 4), of(5, 2, 4), of(5, 3, 4), of(5, 4, 4), of(5, 5, 4)},
		{of(5, 5, 1), of(5, 2, 4), of(5, 3, 4), of(5, 9, 4), of(5, 1, 5)},
		{of(5, 1, 0), of(5, maxNumber, 0), of(5, 1<<32+1, 1), of(5, 2, 1<<32), of(5, 3, maxNumber)},
	} {
		orders(want, func(l []api.Span) {
			parted(l, func(parts [][]api.Span) {
				c := newPair(t, anyCost)
				for _, part := range parts {
					c.want(api.OK, part...)
				}
				if got, is := c.p.Get(5); !is || !slices.Equal(got, want) {
					t.Fatalf("%v; want %v", got, want)
				}
			})
		})
	}
	for seed := range uint32(20) {
		l := row(5, 64)
		for i, b := range stir(seed, 64) {
			k := int(b) % (i + 1)
			l[i], l[k] = l[k], l[i]
		}
		c := newPair(t, anyCost)
		for from := 0; from < 64; from += int(seed) + 1 {
			c.want(api.OK, l[from:min(from+int(seed)+1, 64)]...)
			c.check()
		}
	}
}

// P16.1, P1: Ids tells the least first, each once, in whatever order traces came; Many how many there are.
func TestIds(t *testing.T) {
	check := func(want ...int64) {
		t.Helper()
		var l []api.Span
		for _, id := range want {
			l = append(l, of(id, 1, 0))
		}
		orders(l, func(l []api.Span) {
			c := newPair(t, anyCost, l...)
			for i := range l {
				l[i].Id = 2
			}
			c.want(api.OK, l...)
			if got := c.p.Ids(); !slices.Equal(got, want) || c.p.Many() != len(want) {
				t.Fatalf("%v, %d; want %v", got, c.p.Many(), want)
			}
		})
	}
	check(1)
	check(1, 2, 3, 4, 5)
	check(9, 10, 11, 100, 101)
	check(5, 1<<32+1, 1<<32+5, 2<<32, 2<<32+1)
	check(1, 1<<31, 1<<32, maxNumber-1, maxNumber)
	for n := range 65 {
		c := newPair(t, anyCost)
		for i := range n {
			c.add(of(int64(i*29%64+1), 1, 0))
		}
		c.check()
	}
}

// P16.1, P3: Take of each of some, in every order: it was there, and is no more; all others are as they were, and it may be gathered again, with the Ids that it had, or others.
func TestTake(t *testing.T) {
	few := slices.Concat(row(5, 3), row(6, 1), row(7, 4), row(1<<32+5, 2))
	heads := []api.Span{of(5, 3, 3), of(6, 3, 3), of(7, 3, 3), of(1<<32+5, 3, 3)}
	orders(heads, func(l []api.Span) {
		c := newPair(t, 49, few...)
		for _, s := range l {
			for _, id := range []int64{-s.Trace, s.Trace + 1<<33, 0, 8, math.MinInt64, math.MaxInt64} {
				c.take(id)
			}
			c.check()
			c.take(s.Trace)
			c.check()
			c.take(s.Trace)
			c.check()
		}
		if c.p.Many() != 0 {
			t.Fatal(c.p.Ids())
		}
		for _, s := range l {
			c.want(api.OK, s)
			c.check()
		}
	})
	for _, s := range heads {
		c := newPair(t, 49, few...)
		had := plainOf(few, s.Trace)
		c.take(s.Trace)
		c.want(api.OK, s)
		c.check()
		c.take(s.Trace)
		c.want(api.ErrThere, append(slices.Clone(had), had[0])...)
		c.check()
		c.want(api.OK, had...)
		c.want(api.ErrThere, had...)
		c.check()
	}
	// A trace that was full, or cost MOST, begins anew.
	c := newPair(t, 17+8*64, row(5, 64)...)
	c.take(5)
	c.want(api.OK, row(5, 64)...)
	c.want(api.ErrTooMany, of(5, 1, 0))
	c.check()
}

// P16.1 to P16.3: of two traces, and of all that may happen to them, each row of up to four things.
func TestRows(t *testing.T) {
	var things []func(c *pair)
	for id := int64(1); id <= 2; id++ {
		things = append(things,
			func(c *pair) { c.add(of(id, 1, 5)) },
			func(c *pair) { c.add(of(id, 2, 4), of(id, 3, 6)) },
			func(c *pair) { c.add(of(id, 4, 0), of(3-id, 4, 9)) },
			func(c *pair) { c.add(of(3-id, 5, 5), of(id, 0, 0)) },
			func(c *pair) { c.take(id) },
		)
	}
	var walk func(row []int)
	walk = func(row []int) {
		for _, most := range []int{33, 41, 100} {
			c := newPair(t, most)
			for _, i := range row {
				things[i](c)
			}
			c.check()
		}
		for i := range things {
			if len(row) < 4 {
				walk(append(slices.Clone(row), i))
			}
		}
	}
	walk(nil)
}

// begun is a pair with which play may begin: an empty one, one of 62 or 64 traces, one of a trace of 61 spans; of a MOST that is soon reached, or is not.
func begun(t *testing.T, n byte) *pair {
	t.Helper()
	most := anyCost
	if n >= 128 {
		most = 17 + 8*int(n%16)
	}
	c := &pair{t: t, p: New(most), q: plain{most: most}}
	switch n % 4 {
	case 1:
		c.add(heads(62)...)
	case 2:
		c.add(heads(64)...)
	case 3:
		c.add(row(3, 61)...)
	}
	return c
}

// play has happen what bytes say, the first of which says with what it begins, and holds all that is told to the plain words behind each thing.
func play(t *testing.T, b []byte) {
	t.Helper()
	if len(b) == 0 {
		return
	}
	c := begun(t, b[0])
	c.check()
	next := func() int64 {
		if len(b) == 0 {
			return 0
		}
		n := int64(b[0])
		b = b[1:]
		return n
	}
	next()
	number := func(n int64) int64 {
		if n >= 240 {
			return edges()[int(n)%len(edges())]
		}
		return n%6 + 1
	}
	for len(b) > 0 {
		n := next()
		if n%4 == 0 {
			c.take(number(next()))
			c.check()
			continue
		}
		var l []api.Span
		for range n / 4 % 9 {
			trace, rest := number(next()), next()
			s := of(trace, rest%23+1, next()%8)
			if rest >= 250 {
				s.Service = strings.Repeat("s", int(rest-250)*20)
			}
			l = append(l, s)
		}
		c.add(l...)
		c.check()
	}
}

// P16.2 and P16.3: long rows of all things, among few traces, Ids and Starts, and those at the edges, with a pool that is empty, or nearly full.
func TestPlay(t *testing.T) {
	for seed := range uint32(200) {
		play(t, append([]byte{byte(seed * 37)}, stir(seed, 400)...))
	}
	for n := range byte(8) {
		play(t, append([]byte{n + n/4*124}, stir(4711, 4000)...))
	}
}

// FuzzPool holds a pool to the plain words, whatever happens to it.
func FuzzPool(f *testing.F) {
	f.Add([]byte{})
	f.Add([]byte("\x00\x09\x01\x01\x05\x01\x01\x05\x04\x01"))
	f.Add([]byte("\x81\x0d\x01\x02\x05\x01\x03\x04\xff\xff\x00"))
	f.Add(append([]byte{2}, stir(9, 100)...))
	f.Add(append([]byte{3}, stir(10, 100)...))
	f.Fuzz(func(t *testing.T, b []byte) { play(t, b) })
}

// P3: what is handed in is not changed, nor its spare room, in whatever order it stands, whatever is told; and it is not kept: to change it later changes nothing.
func TestHandedIn(t *testing.T) {
	whole := []api.Span{of(5, 3, 9), of(6, 1, 2), of(5, 2, 9), of(5, 1, 0), of(6, 9, 0), of(5, 3, 9), {}, of(7, 1, 0)}
	for n := range len(whole) + 1 {
		for _, there := range []int64{4, 5, 6} {
			l := slices.Clone(whole)
			c := newPair(t, 49, of(there, 50, 5), of(there, 51, 3))
			c.add(l[:n]...)
			c.check()
			c.p.Add(l[:n])
			c.p.Get(5)
			c.p.Ids()
			if !slices.Equal(l, whole) {
				t.Fatalf("Add of %d has changed %v to %v", n, whole, l)
			}
			for i := range l {
				l[i] = of(99, 99, 99)
			}
			c.check()
		}
	}
	// One list may be handed in to several pools.
	l := slices.Clone(whole[:5])
	a, b := newPair(t, 49), newPair(t, 49, of(5, 9, 9))
	a.want(api.OK, l...)
	b.want(api.ErrBig, append(l, of(5, 7, 7))...)
	b.want(api.OK, l...)
	clear(l)
	a.check()
	b.check()
}

// spoil changes all that a list of spans has, with its spare room.
func spoil(l []api.Span) {
	l = l[:cap(l)]
	for i := range l {
		l[i] = of(99, 99, 99)
	}
}

// P3: what is handed out is new memory, its spare room too: to change it changes neither the pool, nor what was handed out else; nor does the pool change it later.
func TestHandedOut(t *testing.T) {
	for n := 1; n <= 20; n++ {
		c := newPair(t, anyCost, slices.Concat(row(5, n), row(6, n), heads(4))...)
		five, _ := c.p.Get(5)
		six, _ := c.p.Get(6)
		ids := c.p.Ids()
		checkKept := func(when string) {
			t.Helper()
			if !slices.Equal(five, row(5, n)) || !slices.Equal(six, row(6, n)) || !slices.Equal(ids, []int64{1, 2, 3, 4, 5, 6}) {
				t.Fatalf("%d spans: %s has changed what was handed out: %v, %v, %v", n, when, five, six, ids)
			}
		}
		other, _ := c.p.Get(5)
		spoil(other)
		checkKept("Get")
		otherIds := c.p.Ids()
		clear(otherIds[:cap(otherIds)])
		checkKept("Ids")
		c.check()
		c.want(api.OK, of(5, 1, 0), of(6, 1, 99), of(70, 1, 0), of(5, 2, 1))
		checkKept("Add")
		c.want(api.ErrArg, of(5, 3, 0), of(6, 2, 0), api.Span{})
		checkKept("an Add that has an error")
		c.take(5)
		c.want(api.OK, of(5, 7, 7))
		checkKept("Take")
		c.check()
		// A list that is spoilt behind an Add that has an error may not be the pool's either.
		other, _ = c.p.Get(6)
		c.want(api.ErrArg, of(6, 3, 0), api.Span{})
		spoil(other)
		c.check()
		c.want(api.OK, of(6, 3, 0))
		c.check()
	}
}

// P3: to ask changes nothing, and the same is told each time, whatever order a map is gone through in; and of alike pools, however they came to be so.
func TestAgain(t *testing.T) {
	c, back := newPair(t, anyCost), newPair(t, anyCost)
	for id := int64(1); id <= 40; id++ {
		c.want(api.OK, row(id, int(id))...)
	}
	for id := int64(40); id > 0; id-- {
		back.want(api.OK, of(id, 77, 77), of(id+100, 1, 0))
		back.take(id)
		back.take(id + 100)
		back.want(api.ErrArg, of(id, 78, 78), api.Span{})
		l := row(id, int(id))
		slices.Reverse(l)
		for _, s := range l {
			back.want(api.OK, s)
		}
	}
	for range 20 {
		for _, p := range []*Pool{c.p, back.p} {
			if p.Many() != 40 || len(p.Ids()) != 40 || !slices.IsSorted(p.Ids()) || p.Take(41) {
				t.Fatal("something else is told", p.Ids())
			}
			for id := int64(1); id <= 40; id++ {
				if l, is := p.Get(id); !is || !slices.Equal(l, row(id, int(id))) {
					t.Fatal("something else is told of", id, l)
				}
			}
		}
	}
	c.check()
	back.check()
}

// P3: what happens to a pool is not told of another one, and each has a MOST of its own.
func TestTwo(t *testing.T) {
	a, b := newPair(t, 33), newPair(t, 41)
	a.want(api.OK, row(5, 2)...)
	b.check()
	b.want(api.OK, row(5, 3)...)
	a.check()
	a.want(api.ErrBig, row(5, 3)[2])
	b.want(api.ErrBig, of(5, 1, 0))
	a.take(5)
	b.check()
	b.want(api.OK, heads(4)...)
	a.check()
	a.want(api.OK, heads(64)...)
	b.want(api.OK, of(70, 1, 0))
	a.want(api.ErrTooMany, of(70, 1, 0))
	a.check()
	b.check()
	newPair(t, 25).check()
}

// P16.3: the 64th span is within MOST, whatever MOST is, or is not gathered: what is told of a trace is right at each step.
func TestWithin(t *testing.T) {
	for _, l := range [][]api.Span{row(5, 64), larges(64)} {
		each := len(span.Put(nil, l[0]))
		for most := 0; most <= 17+64*each+1; most += 2*each + 3 {
			c := &pair{t: t, p: New(most), q: plain{most: most}}
			for i, s := range l {
				want := api.OK
				if plainCost(l[:i+1]) > most {
					want = api.ErrBig
				}
				c.want(want, s)
				c.get(s.Trace)
			}
			c.check()
		}
	}
}

// P1: what hardly anyone adds: the same Add many times, of many spans, and of many traces that all are too many.
func TestLong(t *testing.T) {
	var l []api.Span
	for i := range int64(100000) {
		l = append(l, of(i+1, 1, 0))
	}
	c := newPair(t, anyCost)
	c.want(api.ErrTooMany, l...)
	c.check()
	c.want(api.ErrArg, make([]api.Span, 100000)...)
	c.want(api.OK, l[:64]...)
	for i := range 2000 {
		if e := c.p.Add([]api.Span{of(int64(i%64+1), 1, int64(i))}); e != api.ErrThere {
			t.Fatal(i, e)
		}
	}
	c.check()
}
