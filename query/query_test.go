package query

import (
	"math"
	"slices"
	"strconv"
	"strings"
	"testing"

	"turntable/api"
)

// one is an entry of an Id and a Tick, from 10 up to 20, of the class 3, of the services db and web; its Brief has an Id of its own, that no one asks for.
func one(id int64, tick int64) api.Entry {
	return api.Entry{
		Item:  api.Item{Id: id, Class: 3, Tick: tick, Cost: 50},
		Brief: api.Brief{Id: 1000 - id, From: 10, To: 20, Many: 2, Services: []string{"db", "web"}},
		Seq:   7, At: 40, Size: 50,
	}
}

// whole is what all entries fit that are one's, of a Limit.
func whole(limit int) api.Ask {
	return api.Ask{From: 10, To: 20, Class: -1, Tick: math.MinInt64, Id: math.MinInt64, Limit: limit}
}

// edges are numbers that a From, a To, a Tick and an Id may be: the least, the greatest, those about 0, and such as have the same last bits.
func edges() []int64 {
	return []int64{math.MinInt64, math.MinInt64 + 1, -1 << 48, -1<<32 + 1, -2, -1, 0, 1, 2, 1<<31 - 1, 1 << 31, 1 << 32, 1<<32 + 1, 1 << 48, 1<<48 + 1, math.MaxInt64 - 1, math.MaxInt64}
}

// limits are Limits of which none are told of n, one, some, all but one, all, and more.
func limits(n int) []int {
	return []int{math.MinInt, -n, -1, 0, 1, 2, n / 2, n - 1, n, n + 1, n + 2, 2 * n, 256, 1 << 32, 1<<32 + 1, math.MaxInt}
}

// copied is a list that shares nothing with l.
func copied(l []api.Entry) []api.Entry {
	out := make([]api.Entry, len(l))
	for i, e := range l {
		out[i] = e
		out[i].Brief.Services = append([]string(nil), e.Brief.Services...)
	}
	return out
}

func same(a, b api.Entry) bool {
	return a.Item == b.Item && a.Seq == b.Seq && a.At == b.At && a.Size == b.Size &&
		a.Brief.Id == b.Brief.Id && a.Brief.From == b.Brief.From && a.Brief.To == b.Brief.To && a.Brief.Many == b.Brief.Many &&
		slices.Equal(a.Brief.Services, b.Brief.Services)
}

// plainFits is Fits by the chapter's words, one behind the other.
func plainFits(e api.Entry, a api.Ask) bool {
	served := a.Service == ""
	for _, s := range e.Brief.Services {
		served = served || s == a.Service
	}
	if !served {
		return false
	}
	if e.Brief.From > a.To || e.Brief.To < a.From {
		return false
	}
	if a.Class >= 0 && a.Class != e.Item.Class {
		return false
	}
	if e.Item.Tick == a.Tick {
		return e.Item.Id > a.Id
	}
	return e.Item.Tick > a.Tick
}

// plainFitting are those of l that fit.
func plainFitting(l []api.Entry, a api.Ask) []api.Entry {
	var out []api.Entry
	for _, e := range l {
		if plainFits(e, a) {
			out = append(out, e)
		}
	}
	return out
}

// plainTold are the first ones of those of l that fit, as many as Limit.
func plainTold(l []api.Entry, a api.Ask) []api.Entry {
	return plainFitting(l, a)[:min(max(a.Limit, 0), len(plainFitting(l, a)))]
}

func plainNext(l []api.Entry, a api.Ask) (api.Ask, bool) {
	told := plainTold(l, a)
	if len(told) == 0 || len(told) == len(plainFitting(l, a)) {
		return api.Ask{}, false
	}
	last := told[len(told)-1]
	return api.Ask{Service: a.Service, From: a.From, To: a.To, Class: a.Class, Tick: last.Item.Tick, Id: last.Item.Id, Limit: a.Limit}, true
}

func idsOf(l []api.Entry) []int64 {
	var out []int64
	for _, e := range l {
		out = append(out, e.Item.Id)
	}
	return out
}

// checkFits holds Fits to what it should tell, and Run of that entry alone.
func checkFits(t *testing.T, e api.Entry, a api.Ask, want bool) {
	t.Helper()
	if got := Fits(e, a); got != want {
		t.Fatalf("Fits(%.300v, %v) = %v", e, a, got)
	}
	a.Limit = 1
	if got := Run([]api.Entry{e}, a); len(got) != 0 != want || want && got[0] != e.Item.Id {
		t.Fatalf("Run of %.300v alone, %v: %v", e, a, got)
	}
}

// checkRun holds Run and Next to what they should tell: where there is more, what is next is behind the last one of want.
func checkRun(t *testing.T, l []api.Entry, a api.Ask, want []int64, more bool) {
	t.Helper()
	if got := Run(l, a); !slices.Equal(got, want) {
		t.Fatalf("Run(%.600v, %v) = %v; want %v", l, a, got, want)
	}
	next, is := Next(l, a)
	if is != more {
		t.Fatalf("Next(%.600v, %v) = %v, %v", l, a, next, is)
	}
	if !more {
		if next != (api.Ask{}) {
			t.Fatalf("Next(%.600v, %v) is false, and tells %v", l, a, next)
		}
		return
	}
	if next.Id != want[len(want)-1] {
		t.Fatalf("Next(%.600v, %v) = %v; want the Id %d", l, a, next, want[len(want)-1])
	}
	next.Tick, next.Id = a.Tick, a.Id
	if next != a {
		t.Fatalf("Next of %v tells another one but for the Tick and the Id: %v", a, next)
	}
}

// checkPlain holds all that is told of a list to the plain words.
func checkPlain(t *testing.T, l []api.Entry, a api.Ask) {
	t.Helper()
	for _, e := range l {
		checkFits(t, e, a, plainFits(e, a))
	}
	want, more := plainNext(l, a)
	checkRun(t, l, a, idsOf(plainTold(l, a)), more)
	if got, _ := Next(l, a); got != want {
		t.Fatalf("Next(%.600v, %v) = %v; want %v", l, a, got, want)
	}
}

// orders calls do with a list in every order.
func orders(l []api.Entry, do func(l []api.Entry)) {
	var walk func(ahead, rest []api.Entry)
	walk = func(ahead, rest []api.Entry) {
		if len(rest) == 0 {
			do(ahead)
		}
		for i, e := range rest {
			walk(append(slices.Clone(ahead), e), slices.Delete(slices.Clone(rest), i, i+1))
		}
	}
	walk(nil, l)
}

// stir is n bytes that hang on seed alone.
func stir(seed uint32, n int) []byte {
	out := make([]byte, n)
	for i := range out {
		seed = seed*1664525 + 1013904223
		out[i] = byte(seed >> 24)
	}
	return out
}

// known are entries that differ in all that may be asked for, in the order of (Tick, Id).
func known() []api.Entry {
	e := func(id int64, tick int64, class int, from int64, to int64, services ...string) api.Entry {
		return api.Entry{Item: api.Item{Id: id, Class: class, Tick: tick}, Brief: api.Brief{Id: id, From: from, To: to, Services: services}}
	}
	return []api.Entry{
		e(6, 100, 0, 10, 20, "web"),
		e(2, 200, 1, 15, 30, "db", "web"),
		e(4, 200, 1, 31, 31, "auth", "db"),
		e(9, 200, 0, 40, 50),
		e(1, 300, 7, 0, 90, "db"),
		e(3, 301, 1, 50, 60, "auth", "mail", "web"),
	}
}

// P15.1, O2: the chapter's example: of a Limit of 0 none are told, however many fit; nor is more asked for.
func TestExample(t *testing.T) {
	for n := range 5 {
		checkRun(t, known()[:n], api.Ask{To: 99, Class: -1}, nil, false)
	}
}

// P15.1, O1: the Service is "", or one of the entry's, whole and wherever it stands; no other one.
func TestFitsService(t *testing.T) {
	long := make([]string, 64)
	for i := range long {
		long[i] = "s" + strconv.Itoa(i)
	}
	for _, c := range []struct {
		services []string
		fits     []string
		not      []string
	}{
		{nil, []string{""}, []string{" ", "a", "db", "\x00"}},
		{[]string{}, []string{""}, []string{"a"}},
		{[]string{""}, []string{""}, []string{"a", " ", "\x00"}},
		{[]string{"web"}, []string{"", "web"}, []string{"we", "eb", "w", "webs", "aweb", "Web", "WEB", "web ", " web", "web\x00", "db"}},
		{[]string{"db", "mail", "web"}, []string{"", "db", "mail", "web"}, []string{"dbmail", "d", "ma", "b", "db,mail", "aa", "e", "zz"}},
		{[]string{"web", "db", "mail"}, []string{"", "db", "mail", "web"}, []string{"webdb", "auth"}}, // in no order
		{[]string{"db", "db", "db"}, []string{"", "db"}, []string{"dbdb", "d"}},
		{[]string{"", "db", ""}, []string{"", "db"}, []string{"d", "a"}},
		{[]string{strings.Repeat("x", 32)}, []string{"", strings.Repeat("x", 32)}, []string{strings.Repeat("x", 31), strings.Repeat("x", 33)}},
		{[]string{strings.Repeat("x", 300), "\xff\xfe", "\x00"}, []string{"", strings.Repeat("x", 300), "\xff\xfe", "\x00"}, []string{"\xff", "\xfe\xff", "\x00\x00", "�"}},
		{long, append([]string{""}, long...), []string{"s", "s64", "s00", "1"}},
	} {
		e := one(5, 2)
		e.Brief.Services = c.services
		a := whole(1)
		for _, a.Service = range c.fits {
			checkFits(t, e, a, true)
		}
		for _, a.Service = range c.not {
			checkFits(t, e, a, false)
		}
	}
}

// P15.1, O1: the entry's time and that asked for have at least one moment in common; of a From that is above a To, the words hold as they are.
func TestFitsTime(t *testing.T) {
	for _, c := range []struct {
		from, to     int64 // the entry's
		aFrom, aUpTo int64 // the Ask's
		want         bool
	}{
		{10, 20, 10, 20, true}, {10, 20, 12, 15, true}, {10, 20, 0, 99, true}, {10, 20, 0, 15, true}, {10, 20, 15, 99, true},
		{10, 20, 20, 30, true}, {10, 20, 21, 30, false}, {10, 20, 19, 30, true}, // its end
		{10, 20, 0, 10, true}, {10, 20, 0, 9, false}, {10, 20, 0, 11, true}, // its beginning
		{10, 20, 20, 20, true}, {10, 20, 10, 10, true}, {10, 20, 15, 15, true}, {10, 20, 9, 9, false}, {10, 20, 21, 21, false},
		{15, 15, 15, 15, true}, {15, 15, 14, 16, true}, {15, 15, 16, 16, false}, {15, 15, 14, 14, false}, {15, 15, 0, 14, false}, {15, 15, 16, 99, false},
		{10, 20, 20, 10, true}, {10, 20, 18, 12, true}, {10, 20, 21, 10, false}, {10, 20, 20, 9, false}, {10, 20, 21, 9, false}, {15, 15, 16, 14, false}, {15, 15, 15, 14, false},
		{20, 10, 0, 99, true}, {20, 10, 10, 20, true}, {20, 10, 11, 20, false}, {20, 10, 10, 19, false}, {20, 10, 15, 15, false},
		{-20, -10, -10, 0, true}, {-20, -10, -9, 0, false}, {-20, -10, -30, -20, true}, {-20, -10, -30, -21, false}, {-20, 20, 0, 0, true},
		{0, 0, 0, 0, true}, {0, 0, 1, 1, false}, {0, 0, -1, -1, false},
		{math.MinInt64, math.MaxInt64, 0, 0, true}, {0, 0, math.MinInt64, math.MaxInt64, true},
		{math.MinInt64, math.MinInt64, math.MinInt64, math.MinInt64, true}, {math.MaxInt64, math.MaxInt64, math.MaxInt64, math.MaxInt64, true},
		{math.MaxInt64, math.MaxInt64, math.MinInt64, math.MinInt64, false}, {math.MinInt64, math.MinInt64, math.MaxInt64, math.MaxInt64, false},
		{math.MinInt64, -1, 0, math.MaxInt64, false}, {math.MinInt64, 0, 0, math.MaxInt64, true}, {1, math.MaxInt64, math.MinInt64, 0, false},
		{1 << 32, 1<<32 + 9, 0, 9, false}, {0, 9, 1 << 32, 1<<32 + 9, false},
	} {
		e, a := one(5, 2), whole(1)
		e.Brief.From, e.Brief.To = c.from, c.to
		a.From, a.To = c.aFrom, c.aUpTo
		checkFits(t, e, a, c.want)
	}
	for _, from := range edges() {
		for _, to := range edges() {
			e := one(5, 2)
			e.Brief.From, e.Brief.To = from, to
			for _, aFrom := range edges() {
				for _, aTo := range edges() {
					a := whole(1)
					a.From, a.To = aFrom, aTo
					checkFits(t, e, a, plainFits(e, a))
				}
			}
		}
	}
}

// P15.1, O1: a Class below 0 is any; each other one is itself alone, whether a trace may have it or not.
func TestFitsClass(t *testing.T) {
	for _, n := range edges() {
		for _, m := range edges() {
			e, a := one(5, 2), whole(1)
			e.Item.Class, a.Class = int(n), int(m)
			checkFits(t, e, a, m < 0 || m == n)
		}
	}
	for class := range api.MaxClass + 1 {
		for asked := -3; asked <= api.MaxClass+3; asked++ {
			e, a := one(5, 2), whole(1)
			e.Item.Class, a.Class = class, asked
			checkFits(t, e, a, asked < 0 || asked == class)
		}
	}
}

// P15.1, O1: the entry is behind the place that is asked for: by its Tick, and by its Id where that is the same one; its Item's Id, not its Brief's.
func TestFitsBehind(t *testing.T) {
	for _, c := range []struct {
		tick, id   int64 // the entry's
		aTick, aId int64 // the Ask's
		want       bool
	}{
		{5, 7, 5, 7, false}, {5, 7, 5, 6, true}, {5, 7, 5, 8, false}, {5, 7, 5, 0, true}, {5, 7, 5, 99, false},
		{5, 7, 4, 7, true}, {5, 7, 4, 6, true}, {5, 7, 4, 8, true}, {5, 7, 4, 99, true},
		{5, 7, 6, 7, false}, {5, 7, 6, 6, false}, {5, 7, 6, 8, false}, {5, 7, 6, 0, false},
		{0, 1, 0, 0, true}, {0, 0, 0, 0, false}, {1, 0, 0, 0, true}, {0, -1, 0, 0, false}, {-1, 9, 0, 0, false},
		{5, -7, 5, -8, true}, {5, -7, 5, -7, false}, {5, -7, 5, -6, false}, {-5, 7, -6, 7, true}, {-5, 7, -5, 6, true}, {-5, 7, -4, 0, false},
		{5, math.MinInt64, 5, math.MinInt64, false}, {5, math.MaxInt64, 5, math.MinInt64, true}, {5, math.MinInt64, 5, math.MaxInt64, false}, {5, math.MaxInt64, 5, math.MaxInt64, false},
		{math.MaxInt64, 0, math.MinInt64, 1, true}, {math.MinInt64, 1, math.MaxInt64, 0, false}, // differences would wrap round
		{1 << 32, 7, 0, 8, true}, {0, 7, 1 << 32, 6, false}, {5, 1<<32 + 7, 5, 8, true}, {5, 8, 5, 1<<32 + 7, false},
	} {
		for _, other := range edges() {
			e, a := one(c.id, c.tick), whole(1)
			e.Brief.Id = other
			a.Tick, a.Id = c.aTick, c.aId
			checkFits(t, e, a, c.want)
		}
	}
	for _, tick := range edges() {
		for _, id := range edges() {
			for _, aTick := range edges() {
				for _, aId := range edges() {
					e, a := one(id, tick), whole(1)
					a.Tick, a.Id = aTick, aId
					checkFits(t, e, a, plainFits(e, a))
				}
			}
		}
	}
}

// P15.1, O1: an entry fits where all four are so: in each choice of those that are not, it does not.
func TestFitsAll(t *testing.T) {
	wrong := []func(a *api.Ask){
		func(a *api.Ask) { a.Service = "mail" },
		func(a *api.Ask) { a.From, a.To = 21, 30 },
		func(a *api.Ask) { a.Class = 4 },
		func(a *api.Ask) { a.Tick, a.Id = 2, 5 },
	}
	for choice := range 1 << len(wrong) {
		for _, a := range []api.Ask{whole(1), {Service: "db", From: 20, To: 30, Class: 3, Tick: 2, Id: 4, Limit: 1}, {Service: "web", From: 0, To: 10, Class: 3, Tick: 1, Id: 9, Limit: 1}} {
			for i, spoil := range wrong {
				if choice>>i&1 == 1 {
					spoil(&a)
				}
			}
			checkFits(t, one(5, 2), a, choice == 0)
		}
	}
}

// P15.1, O1: all else that an entry has, and the Limit, count for nothing.
func TestFitsElse(t *testing.T) {
	for _, n := range edges() {
		e, a := one(5, 2), whole(1)
		e.Item.Cost, e.Item.Pinned, e.Brief.Id, e.Brief.Many = int(n), n%2 == 0, n, int(n)
		e.Seq, e.At, e.Size = n, int(n), int(n)
		checkFits(t, e, a, true)
		a.Limit = int(n)
		if !Fits(e, a) {
			t.Error("does not fit of the Limit", n)
		}
		a.Service = "x"
		if Fits(e, a) {
			t.Error("fits of the Limit", n)
		}
	}
	checkFits(t, api.Entry{}, api.Ask{}, false) // nothing is behind itself
	checkFits(t, api.Entry{}, api.Ask{Tick: -1}, true)
	checkFits(t, api.Entry{Item: api.Item{Id: 1}}, api.Ask{}, true)
}

// P15.1, O2 and O3: what is known by hand of each thing that may be asked for, and of how many.
func TestKnown(t *testing.T) {
	l := known()
	checkRun(t, l, api.Ask{To: 99, Class: -1, Limit: 9}, []int64{6, 2, 4, 9, 1, 3}, false)
	checkRun(t, l, api.Ask{To: 99, Class: -1, Limit: 6}, []int64{6, 2, 4, 9, 1, 3}, false)
	checkRun(t, l, api.Ask{To: 99, Class: -1, Limit: 5}, []int64{6, 2, 4, 9, 1}, true)
	checkRun(t, l, api.Ask{To: 99, Class: -1, Limit: 1}, []int64{6}, true)
	checkRun(t, l, api.Ask{To: 99, Class: -1, Limit: 0}, nil, false)
	checkRun(t, l, api.Ask{To: 99, Class: -1, Limit: -1}, nil, false)
	checkRun(t, l, api.Ask{To: 99, Class: -1, Tick: 200, Id: 2, Limit: 2}, []int64{4, 9}, true)
	checkRun(t, l, api.Ask{To: 99, Class: -1, Tick: 200, Id: 3, Limit: 4}, []int64{4, 9, 1, 3}, false)
	checkRun(t, l, api.Ask{To: 99, Class: -1, Tick: 301, Id: 3, Limit: 4}, nil, false)
	checkRun(t, l, api.Ask{Service: "db", To: 99, Class: -1, Limit: 2}, []int64{2, 4}, true)
	checkRun(t, l, api.Ask{Service: "db", To: 99, Class: -1, Limit: 3}, []int64{2, 4, 1}, false)
	checkRun(t, l, api.Ask{Service: "db", To: 99, Class: 1, Limit: 2}, []int64{2, 4}, false)
	checkRun(t, l, api.Ask{Service: "web", From: 21, To: 49, Class: -1, Limit: 2}, []int64{2}, false)
	checkRun(t, l, api.Ask{Service: "web", From: 20, To: 50, Class: -1, Limit: 2}, []int64{6, 2}, true)
	checkRun(t, l, api.Ask{From: 31, To: 31, Class: -1, Limit: 1}, []int64{4}, true)
	checkRun(t, l, api.Ask{To: 99, Class: 7, Limit: 1}, []int64{1}, false)
	checkRun(t, l, api.Ask{To: 99, Class: 5, Limit: 9}, nil, false)
	checkRun(t, l, api.Ask{Service: "none", To: 99, Class: -1, Limit: 9}, nil, false)
	checkRun(t, l, api.Ask{From: 91, To: 99, Class: -1, Limit: 9}, nil, false)
	next, is := Next(l, api.Ask{Service: "db", From: 1, To: 98, Class: 1, Tick: 199, Id: 77, Limit: 1})
	if want := (api.Ask{Service: "db", From: 1, To: 98, Class: 1, Tick: 200, Id: 2, Limit: 1}); next != want || !is {
		t.Error(next, is)
	}
}

// P15.1, O2 and O3: of no entries, and of none that fit, none are told, and there is nothing more, whatever the Limit.
func TestNone(t *testing.T) {
	for _, limit := range limits(6) {
		for _, a := range []api.Ask{{}, whole(0), {Service: "web", To: 99, Class: 0, Tick: -7, Id: -8}} {
			a.Limit = limit
			checkRun(t, nil, a, nil, false)
			checkRun(t, []api.Entry{}, a, nil, false)
		}
		checkRun(t, known(), api.Ask{To: 99, Class: -1, Tick: 302, Limit: limit}, nil, false)
		checkRun(t, known(), api.Ask{Service: "x", To: 99, Class: -1, Limit: limit}, nil, false)
	}
}

// P15.1, O2 and O3: of n that fit, each Limit tells as many; there is more, if one fits that is not told, wherever in the list it stands.
func TestLimit(t *testing.T) {
	for n := range 7 {
		for gap := range 4 { // so many that do not fit stand ahead of each one, and at the end
			var l []api.Entry
			var fit []int64
			for i := range n {
				l = append(l, misses(gap)...)
				l = append(l, one(int64(50+i), 9))
				fit = append(fit, int64(50+i))
			}
			l = append(l, misses(gap)...)
			for _, limit := range limits(n) {
				told := min(max(limit, 0), n)
				checkRun(t, l, whole(limit), fit[:told], 0 < told && told < n)
			}
		}
	}
}

// misses are n entries that are of another time than all that whole asks for.
func misses(n int) []api.Entry {
	var out []api.Entry
	for i := range n {
		e := one(int64(900+i), 9)
		e.Brief.From, e.Brief.To = 21+int64(i), 99
		out = append(out, e)
	}
	return out
}

// P15.1, O2 and O3, and P15.3: each choice of those of a list that fit, with each Limit; each order of that list: they are told in the order in which they stand there.
func TestOrders(t *testing.T) {
	l := []api.Entry{one(5, 1), one(3, 2), one(8, 2), one(1, 3)}
	for choice := range 1 << len(l) {
		some := copied(l)
		for i := range some {
			if choice>>i&1 == 1 {
				some[i].Item.Class = 4
			}
		}
		orders(some, func(l []api.Entry) {
			for limit := -1; limit <= len(l)+1; limit++ {
				for class := -1; class <= 5; class++ {
					a := whole(limit)
					a.Class = class
					checkPlain(t, l, a)
					a.Tick, a.Id = 2, 3
					checkPlain(t, l, a)
				}
			}
		})
	}
}

// P15.1, O2 and O3: like entries are each told, as often as they are there, and so are several of one Id, and those that are at the edges.
func TestAlike(t *testing.T) {
	same := []api.Entry{one(5, 2), one(5, 2), one(5, 2)}
	checkRun(t, same, whole(3), []int64{5, 5, 5}, false)
	checkRun(t, same, whole(2), []int64{5, 5}, true)
	checkRun(t, []api.Entry{one(5, 3), one(5, 1), one(5, 2)}, whole(2), []int64{5, 5}, true)
	var l []api.Entry
	for _, tick := range edges() {
		for _, id := range edges() {
			l = append(l, one(id, tick))
		}
	}
	for _, tick := range edges() {
		for _, id := range edges() {
			a := whole(1)
			a.Tick, a.Id = tick, id
			for _, a.Limit = range limits(7) {
				want, more := plainNext(l, a)
				checkRun(t, l, a, idsOf(plainTold(l, a)), more)
				if got, _ := Next(l, a); got != want {
					t.Fatalf("%v: %v; want %v", a, got, want)
				}
			}
		}
	}
}

// P15.1, O3: the Tick is that of the last one that is told, and all else is as it was, whatever that is.
func TestNextAsk(t *testing.T) {
	l := []api.Entry{one(9, 40), one(4, 7), one(6, 30), one(5, 50)}
	for _, n := range edges() {
		for _, service := range []string{"", "db", "web"} {
			a := api.Ask{Service: service, From: min(n, 20), To: max(n, 10), Class: min(int(n), -1), Tick: min(n, 6), Id: n}
			for limit, want := range map[int]api.Ask{1: {Tick: 40, Id: 9}, 2: {Tick: 7, Id: 4}, 3: {Tick: 30, Id: 6}} {
				a.Limit, want.Limit = limit, limit
				want.Service, want.From, want.To, want.Class = a.Service, a.From, a.To, a.Class
				if got, is := Next(l, a); got != want || !is {
					t.Fatalf("Next of %v = %v, %v", a, got, is)
				}
			}
			a.Limit = 4
			checkRun(t, l, a, []int64{9, 4, 6, 5}, false)
		}
	}
}

// pages are what is told of an Ask page by page: each page's Ids, as long as there is more.
func pages(t *testing.T, l []api.Entry, a api.Ask) [][]int64 {
	t.Helper()
	var out [][]int64
	for range len(l) + 1 {
		out = append(out, Run(l, a))
		next, more := Next(l, a)
		if !more {
			return out
		}
		a = next
	}
	t.Fatalf("of %d entries there are more pages: %v", len(l), a)
	return nil
}

// checkPages holds what is told page by page to what is told at once: each page but the last one is of as many as the Limit, and the last one is not of none, unless it is the only one.
func checkPages(t *testing.T, l []api.Entry, a api.Ask) {
	t.Helper()
	all := a
	all.Limit = len(l)
	for _, a.Limit = range []int{1, 2, 3, 4, 5, 7, len(l)/2 + 1, len(l) + 1, math.MaxInt} {
		got := pages(t, l, a)
		if want := Run(l, all); !slices.Equal(slices.Concat(got...), want) {
			t.Fatalf("of %.600v, %v, page by page: %v; want %v", l, a, got, want)
		}
		for i, page := range got {
			if i < len(got)-1 && len(page) != a.Limit || i > 0 && len(page) == 0 {
				t.Fatalf("of %.600v, %v: %v", l, a, got)
			}
		}
	}
	for _, a.Limit = range []int{0, -1, math.MinInt} {
		if got := pages(t, l, a); len(got) != 1 || len(got[0]) != 0 {
			t.Fatalf("of %v: %v", a, got)
		}
	}
}

// P15.2: known entries, page by page.
func TestPagesKnown(t *testing.T) {
	check := func(a api.Ask, want ...[]int64) {
		t.Helper()
		if got := pages(t, known(), a); !slices.EqualFunc(got, want, slices.Equal) {
			t.Errorf("%v: %v; want %v", a, got, want)
		}
	}
	check(api.Ask{To: 99, Class: -1, Limit: 1}, []int64{6}, []int64{2}, []int64{4}, []int64{9}, []int64{1}, []int64{3})
	check(api.Ask{To: 99, Class: -1, Limit: 2}, []int64{6, 2}, []int64{4, 9}, []int64{1, 3})
	check(api.Ask{To: 99, Class: -1, Limit: 4}, []int64{6, 2, 4, 9}, []int64{1, 3})
	check(api.Ask{To: 99, Class: -1, Limit: 6}, []int64{6, 2, 4, 9, 1, 3})
	check(api.Ask{Service: "db", To: 99, Class: -1, Limit: 2}, []int64{2, 4}, []int64{1})
	check(api.Ask{Service: "web", To: 99, Class: -1, Tick: 100, Id: 5, Limit: 2}, []int64{6, 2}, []int64{3})
	check(api.Ask{To: 99, Class: -1, Limit: 0}, nil)
	check(api.Ask{Service: "x", To: 99, Class: -1, Limit: 2}, nil)
}

// inOrder are entries of unlike (Tick, Id), in that order, as seed has it: few Ticks, so that many are alike.
func inOrder(seed uint32, n int) []api.Entry {
	l := fromBytes(stir(seed, n*entryBytes))
	slices.SortFunc(l, func(a, b api.Entry) int {
		switch {
		case a.Item.Tick != b.Item.Tick && a.Item.Tick < b.Item.Tick, a.Item.Tick == b.Item.Tick && a.Item.Id < b.Item.Id:
			return -1
		case a.Item.Tick == b.Item.Tick && a.Item.Id == b.Item.Id:
			return 0
		}
		return 1
	})
	return slices.CompactFunc(l, func(a, b api.Entry) bool { return a.Item.Tick == b.Item.Tick && a.Item.Id == b.Item.Id })
}

// P15.2: page by page, whatever is asked for, from whatever place on, what is told of entries in order is what is told at once.
func TestPages(t *testing.T) {
	for n := range 40 {
		for seed := range uint32(30) {
			l := inOrder(seed+uint32(n)*100, n)
			checkPages(t, l, whole(0))
			checkPages(t, l, fromAsk(stir(seed+7777, askBytes)))
			for _, e := range l {
				a := fromAsk(stir(seed+9999, askBytes))
				a.Tick, a.Id = e.Item.Tick, e.Item.Id
				checkPages(t, l, a)
			}
		}
	}
	checkPages(t, known(), api.Ask{To: 99, Class: -1})
	var l []api.Entry
	for _, tick := range edges() {
		for _, id := range edges() {
			l = append(l, one(id, tick))
		}
	}
	checkPages(t, l, whole(0))
}

// P15.2: what goes and comes between two pages changes nothing of what is told but of itself: a page begins behind a place, not behind so many.
func TestPagesChanged(t *testing.T) {
	l := known()
	a := api.Ask{To: 99, Class: -1, Limit: 3}
	next, more := Next(l, a)
	if !more {
		t.Fatal("no more")
	}
	gone := slices.Clone(l[3:])
	checkRun(t, gone, next, []int64{9, 1, 3}, false)
	come := slices.Concat([]api.Entry{{Item: api.Item{Id: 50, Tick: 100}}}, l)
	checkRun(t, come, next, []int64{9, 1, 3}, false)
	checkRun(t, slices.Delete(slices.Clone(l), 2, 3), next, []int64{9, 1, 3}, false)
}

// Of so many bytes each, an entry and an Ask are chosen.
const (
	entryBytes = 7
	askBytes   = 7
)

// number is a small one, or one at the edges.
func number(n byte) int64 {
	if n >= 232 {
		return edges()[int(n)%len(edges())]
	}
	return int64(n % 14)
}

func name(n byte) string { return []string{"", "a", "ab", "b", "web"}[n%5] }

func fromBytes(b []byte) []api.Entry {
	var out []api.Entry
	for ; len(b) >= entryBytes; b = b[entryBytes:] {
		e := api.Entry{
			Item:  api.Item{Id: number(b[0]), Class: int(number(b[1] / 2)), Tick: number(b[2]) / 3, Pinned: b[6]%2 == 0},
			Brief: api.Brief{Id: number(b[1]), From: number(b[3]), To: number(b[4])},
			Seq:   int64(b[6]),
		}
		for i := range b[5] % 4 {
			e.Brief.Services = append(e.Brief.Services, name(b[5]/4+i*b[6]))
		}
		out = append(out, e)
	}
	return out
}

// fromAsk is one that bytes choose; with fewer of them, those that are missing are 0.
func fromAsk(b []byte) api.Ask {
	b = append(slices.Clone(b), make([]byte, askBytes)...)
	a := api.Ask{From: number(b[0]), To: number(b[1]), Class: int(number(b[2]/2)) - 6, Tick: number(b[3]) / 4, Id: number(b[4]), Limit: int(number(b[5])) - 1}
	if b[6] >= 128 {
		a.Service = name(b[6])
	}
	return a
}

// P15.1 and P15.3: lists of all sorts, and whatever may be asked for, are told as the plain words tell them.
func TestLists(t *testing.T) {
	for seed := range uint32(3000) {
		l := fromBytes(stir(seed, int(seed%40)*entryBytes))
		checkPlain(t, l, fromAsk(stir(seed+5000, askBytes)))
		for _, limit := range limits(len(l)) {
			checkPlain(t, l, whole(limit))
		}
	}
}

// P15.3: what is told are numbers of entries that fit, each as often as it fits, but for those behind the Limit.
func TestFilter(t *testing.T) {
	for seed := range uint32(1000) {
		l, a := fromBytes(stir(seed, 60*entryBytes)), fromAsk(stir(seed+5000, askBytes))
		a.Limit = len(l)
		all := Run(l, a)
		at := 0
		for _, e := range l {
			if !Fits(e, a) {
				continue
			}
			if at == len(all) || all[at] != e.Item.Id {
				t.Fatalf("%.600v, %v: %v", l, a, all)
			}
			at++
		}
		if at != len(all) {
			t.Fatalf("%.600v, %v: %v", l, a, all)
		}
		for a.Limit = range len(l) {
			if got := Run(l, a); !slices.Equal(got, all[:min(a.Limit, len(all))]) {
				t.Fatalf("%.600v, %v: %v; want those that %v begins with", l, a, got, all)
			}
		}
	}
}

// P15.1 to P15.3: very many.
func TestMany(t *testing.T) {
	const n = 200000
	l := make([]api.Entry, n)
	var want []int64
	for i := range l {
		l[i] = one(int64(i), int64(i/7))
		l[i].Item.Class = i % 5
		if i%5 == 2 {
			want = append(want, int64(i))
		}
	}
	a := whole(n)
	a.Class = 2
	checkRun(t, l, a, want, false)
	a.Limit = len(want)
	checkRun(t, l, a, want, false)
	a.Limit--
	checkRun(t, l, a, want[:len(want)-1], true)
	a.Limit = 7000
	if got := slices.Concat(pages(t, l, a)...); !slices.Equal(got, want) {
		t.Error("page by page, something else is told")
	}
}

// FuzzQuery holds all that is told to the plain words.
func FuzzQuery(f *testing.F) {
	f.Add([]byte{}, []byte{})
	f.Add(stir(1, entryBytes), stir(2, askBytes))
	f.Add(stir(3, 20*entryBytes), []byte{0, 255, 0, 0, 0, 4, 0})
	f.Fuzz(func(t *testing.T, entries []byte, ask []byte) {
		l, a := fromBytes(entries), fromAsk(ask)
		checkPlain(t, l, a)
		l = inOrder(uint32(len(entries)), len(l)%30)
		checkPages(t, l, a)
	})
}

// P3: what is handed in is not changed, nor its spare room, nor the Services of entries, which are in no order here, nor theirs.
func TestHandedIn(t *testing.T) {
	rows := fromBytes(stir(5, 12*entryBytes))
	for i := range rows {
		rows[i].Brief.Services = append([]string{"z", "web", "z", "a"}, rows[i].Brief.Services...)
	}
	for many := range len(rows) + 1 {
		room := copied(rows)
		for i := range room {
			room[i].Brief.Services = append(room[i].Brief.Services, "spare", "room")
		}
		want := copied(room)
		for i := range room {
			room[i].Brief.Services = room[i].Brief.Services[:len(rows[i].Brief.Services)]
		}
		for _, a := range []api.Ask{whole(3), whole(0), whole(99), {Service: "a", From: -5, To: 99, Class: -1, Tick: -1, Limit: 2}} {
			for _, e := range room[:many] {
				Fits(e, a)
			}
			Run(room[:many], a)
			Next(room[:many], a)
			for i, e := range room {
				e.Brief.Services = e.Brief.Services[:len(want[i].Brief.Services)]
				if !same(e, want[i]) {
					t.Fatalf("%v has changed %v to %v", a, want[i], e)
				}
			}
		}
	}
}

// P3: what is handed out is one's own, with its spare room: to change it changes neither what was handed in, nor what else was handed out; and what was handed in may change, and nothing that was told does.
func TestHandedOut(t *testing.T) {
	for n := range 12 {
		var l []api.Entry
		for i := range n {
			l = append(l, one(int64(i), 4))
		}
		before := copied(l)
		for limit := range n + 2 {
			kept, other := Run(l, whole(limit)), Run(l, whole(limit))
			clear(other[:cap(other)])
			next, more := Next(l, whole(limit))
			if !slices.EqualFunc(l, before, same) {
				t.Fatal("what was handed in is another one")
			}
			checkRun(t, l, whole(limit), kept, more)
			changed := copied(l)
			told := Run(changed, whole(limit))
			clear(changed)
			if !slices.Equal(told, kept) {
				t.Fatal("what was told is another one")
			}
			if again, is := Next(l, whole(limit)); again != next || is != more {
				t.Fatal("what is next is another one")
			}
		}
	}
}

// P3: the same is told each time, whatever was asked for ahead of it.
func TestAgain(t *testing.T) {
	l := known()
	a := api.Ask{Service: "db", To: 99, Class: -1, Limit: 2}
	next, more := Next(l, a)
	for range 3 {
		for _, other := range []api.Ask{a, next, whole(1), {}, {To: 99, Class: 1, Limit: 1}} {
			Run(l, other)
			Next(known()[2:], other)
			Fits(l[0], other)
			checkRun(t, l, a, []int64{2, 4}, true)
			if again, is := Next(l, a); again != next || is != more {
				t.Fatal(again, is)
			}
			if !Fits(l[1], a) || Fits(l[0], a) {
				t.Fatal("fits otherwise")
			}
		}
	}
}

// The iterator tells those that fit, and no more of them where it is left; it may be gone through again.
func TestFitting(t *testing.T) {
	told := fitting(known(), api.Ask{Service: "db", To: 99, Class: -1})
	for range 2 {
		for many := range 4 {
			var got []int64
			for x := range told {
				if len(got) == many {
					break
				}
				got = append(got, x.Id)
			}
			if !slices.Equal(got, []int64{2, 4, 1}[:many]) {
				t.Error(many, got)
			}
		}
	}
}

// What must be so is asked in turn, up to the first thing that is not.
func TestAllSo(t *testing.T) {
	for choice := range 1 << 4 {
		asked := 0
		var things []func() bool
		first := 4
		for i := range 4 {
			so := choice>>i&1 == 0
			if !so && first == 4 {
				first = i
			}
			things = append(things, func() bool { asked++; return so })
		}
		if got := allSo(things...); got != (first == 4) || asked != min(first+1, 4) {
			t.Errorf("%04b: %v, and %d were asked", choice, got, asked)
		}
	}
	if !allSo() {
		t.Error("of nothing, something is not so")
	}
}
