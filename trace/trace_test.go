package trace

import (
	"bytes"
	"math"
	"slices"
	"strings"
	"testing"

	"turntable/api"
	"turntable/span"
	"turntable/vint"
)

const maxNumber = 1 << 48

// plain is a right span whose parts are all unlike; it takes 11 bytes.
func plain() api.Span {
	return api.Span{Trace: 5, Id: 6, Parent: 7, Start: 300, Dur: 2, Service: "a", Name: "bc"}
}

// small is a right span that takes 8 bytes.
func small() api.Span { return api.Span{Trace: 1, Id: 1, Service: "s"} }

// at is a span of the trace 5, of an Id, that began then, and was so long, of a service.
func at(id int64, start int64, dur int64, service string) api.Span {
	return api.Span{Trace: 5, Id: id, Parent: id / 2, Start: start, Dur: dur, Service: service, Name: "n"}
}

// row is n spans in a trace's order: some begin together, the Ids of the others run against the order, and of three services each comes often.
func row(n int) []api.Span {
	l := make([]api.Span, n)
	for i := range l {
		l[i] = at(int64(1000-i/2*2+i%2), int64(i/2*100), int64(i*37%500), []string{"web", "db", "cache"}[i%3])
	}
	return l
}

// larges are n spans that take as many bytes as they may, each of a service of its own, the greatest first.
func larges(n int) []api.Span {
	l := make([]api.Span, n)
	for i := range l {
		l[i] = api.Span{Trace: maxNumber, Id: maxNumber - int64(n-i), Parent: maxNumber, Start: maxNumber / 2, Dur: maxNumber/2 - int64(i), Service: strings.Repeat("\xff", 31) + string([]byte{byte(255 - i)}), Name: strings.Repeat("n", 32)}
	}
	return l
}

// traces are spans in a trace's order: one, some that began together, as many as there may be and next to that.
func traces() [][]api.Span {
	return [][]api.Span{
		{plain()}, {small()}, larges(1),
		{at(1, 0, 0, "a"), at(2, 0, 0, "a")}, {at(2, 0, 0, "a"), at(1, 1, 0, "b")}, {at(3, 5, 9, "b"), at(7, 5, 0, "a"), at(9, 5, 1, "b")},
		{at(1, 0, maxNumber, "x"), at(maxNumber, maxNumber, 0, "x")}, {at(maxNumber, 0, 0, "\x00"), at(1, maxNumber, 0, "\xff")},
		row(2), row(3), row(4), row(5), row(31), row(62), row(63), row(64), larges(2), larges(63), larges(64),
	}
}

// spoils make a right span one that is not right, each for a reason of its own.
func spoils() []func(s *api.Span) {
	return []func(s *api.Span){
		func(s *api.Span) { s.Trace = 0 }, func(s *api.Span) { s.Trace = -1 }, func(s *api.Span) { s.Trace = maxNumber + 1 }, func(s *api.Span) { s.Trace = math.MinInt64 },
		func(s *api.Span) { s.Id = 0 }, func(s *api.Span) { s.Id = -1 }, func(s *api.Span) { s.Id = maxNumber + 1 }, func(s *api.Span) { s.Id = math.MaxInt64 },
		func(s *api.Span) { s.Parent = -1 }, func(s *api.Span) { s.Parent = maxNumber + 1 },
		func(s *api.Span) { s.Start = -1 }, func(s *api.Span) { s.Start = maxNumber + 1 }, func(s *api.Span) { s.Start = math.MinInt64 },
		func(s *api.Span) { s.Dur = -1 }, func(s *api.Span) { s.Dur = maxNumber - s.Start + 1 }, func(s *api.Span) { s.Dur = math.MaxInt64 },
		func(s *api.Span) { s.Service = "" }, func(s *api.Span) { s.Service = strings.Repeat("s", 33) }, func(s *api.Span) { s.Name = strings.Repeat("n", 33) },
		func(s *api.Span) { *s = api.Span{} },
	}
}

// spoilt is a list whose span k was changed.
func spoilt(l []api.Span, k int, spoil func(s *api.Span)) []api.Span {
	out := slices.Clone(l)
	spoil(&out[k])
	return out
}

// plainRight is the chapter's words for a trace's spans.
func plainRight(l []api.Span) bool {
	if len(l) == 0 || len(l) > 64 {
		return false
	}
	for i, a := range l {
		if !span.Right(a) {
			return false
		}
		for _, b := range l[i+1:] {
			if a.Trace != b.Trace || a.Id == b.Id || a.Start > b.Start || a.Start == b.Start && a.Id > b.Id {
				return false
			}
		}
	}
	return true
}

// plainOf is what E2 says of Of, word for word.
func plainOf(l []api.Span) api.Brief {
	if !plainRight(l) {
		return api.Brief{}
	}
	out := api.Brief{Id: l[0].Trace, From: math.MaxInt64, Many: len(l)}
	for _, s := range l {
		out.From = min(out.From, s.Start)
		out.To = max(out.To, s.Start+s.Dur)
		out.Services = append(out.Services, s.Service)
	}
	slices.SortFunc(out.Services, func(a, b string) int { return bytes.Compare([]byte(a), []byte(b)) })
	out.Services = slices.Compact(out.Services)
	return out
}

// raw is the bytes of a number, and of right spans, whether they are a trace's or not.
func raw(n int64, l ...api.Span) string {
	b := vint.Put(nil, n)
	for _, s := range l {
		b = append(b, span.Put(nil, s)...)
	}
	return string(b)
}

// plainGet is what E3 says of Get, word for word.
func plainGet(b []byte) ([]api.Span, api.Errno) {
	n, from, e := vint.Get(b)
	if e != api.OK {
		return nil, e
	}
	if n == 0 || n > 64 {
		return nil, api.ErrForm
	}
	var l []api.Span
	for int64(len(l)) < n {
		s, size, e := span.Get(b[from:])
		if e != api.OK {
			return nil, e
		}
		l = append(l, s)
		from += size
	}
	if from != len(b) || !plainRight(l) {
		return nil, api.ErrForm
	}
	return l, api.OK
}

func checkGet(t *testing.T, b string, l []api.Span, e api.Errno) {
	t.Helper()
	if gl, ge := Get([]byte(b)); !slices.Equal(gl, l) || ge != e {
		t.Fatalf("Get(%x) = %v, %d; want %v, %d", b, gl, int(ge), l, int(e))
	}
}

// checkPlain holds Get to the plain words, and what is got to its bytes.
func checkPlain(t *testing.T, b string) {
	t.Helper()
	l, e := plainGet([]byte(b))
	checkGet(t, b, l, e)
	if got, e := Get([]byte(b)); e == api.OK && (!Right(got) || string(Put(got)) != b) {
		t.Fatalf("Get(%x) = %v, but its bytes are %x", b, got, Put(got))
	}
}

func sameBrief(a, b api.Brief) bool {
	return a.Id == b.Id && a.From == b.From && a.To == b.To && a.Many == b.Many && slices.Equal(a.Services, b.Services)
}

// checkOrdered holds Right, Of, Put and Get to these spans as a trace's.
func checkOrdered(t *testing.T, l []api.Span) {
	t.Helper()
	want := raw(int64(len(l)), l...)
	if !Right(l) || !sameBrief(Of(l), plainOf(l)) || string(Put(l)) != want {
		t.Fatalf("%v: %v, %v, %x", l, Right(l), Of(l), Put(l))
	}
	checkGet(t, want, l, api.OK)
}

// checkNotOrdered: these are no trace's spans as they stand, and nothing is told of them.
func checkNotOrdered(t *testing.T, l []api.Span) {
	t.Helper()
	if Right(l) || !sameBrief(Of(l), api.Brief{}) || len(Put(l)) != 0 {
		t.Fatalf("%v: %v, %v, %x", l, Right(l), Of(l), Put(l))
	}
	if len(l) < 100 && !slices.ContainsFunc(l, func(s api.Span) bool { return !span.Right(s) }) {
		checkGet(t, raw(int64(len(l)), l...), nil, api.ErrForm)
	}
}

func checkSort(t *testing.T, l []api.Span, want []api.Span) {
	t.Helper()
	if got, is := Sort(l); !slices.Equal(got, want) || is != (len(want) > 0) {
		t.Fatalf("Sort(%v) = %v, %v; want %v", l, got, is, want)
	}
}

// checkNone: these are no trace's spans, in whatever order.
func checkNone(t *testing.T, l []api.Span) {
	t.Helper()
	for _, k := range []int{0, 1, len(l) / 2} {
		turned := slices.Concat(l[min(k, len(l)):], l[:min(k, len(l))])
		checkNotOrdered(t, turned)
		checkSort(t, turned, nil)
		slices.Reverse(turned)
		checkNotOrdered(t, turned)
		checkSort(t, turned, nil)
	}
}

// orders calls do with a list in every order.
func orders(l []api.Span, do func(l []api.Span)) {
	var walk func(ahead, rest []api.Span)
	walk = func(ahead, rest []api.Span) {
		if len(rest) == 0 {
			do(ahead)
		}
		for i, s := range rest {
			walk(append(slices.Clone(ahead), s), slices.Delete(slices.Clone(rest), i, i+1))
		}
	}
	walk(nil, l)
}

// P5.1, E1 to E3: traces that are known by hand; the chapter's example.
func TestKnown(t *testing.T) {
	two := []api.Span{at(6, 1, 0, "a"), at(6, 2, 0, "a")} // two spans of one Id
	checkNone(t, two)
	first := api.Span{Trace: 5, Id: 9, Start: 2, Dur: 400, Service: "web"}
	second := api.Span{Trace: 5, Id: 8, Parent: 9, Start: 300, Service: "db", Name: "ask"}
	for _, x := range []struct {
		l     []api.Span
		b     string
		brief api.Brief
	}{
		{[]api.Span{small()}, "\x01\x01\x01\x00\x00\x00\x01s\x00", api.Brief{Id: 1, Many: 1, Services: []string{"s"}}},
		{[]api.Span{plain()}, "\x01\x05\x06\x07\xac\x02\x02\x01a\x02bc", api.Brief{Id: 5, From: 300, To: 302, Many: 1, Services: []string{"a"}}},
		{[]api.Span{first, second, plain()}, "", api.Brief{}},
		{[]api.Span{first, plain(), second}, "\x03\x05\x09\x00\x02\x90\x03\x03web\x00\x05\x06\x07\xac\x02\x02\x01a\x02bc\x05\x08\x09\xac\x02\x00\x02db\x03ask", api.Brief{Id: 5, From: 2, To: 402, Many: 3, Services: []string{"a", "db", "web"}}},
	} {
		if got := Put(x.l); string(got) != x.b {
			t.Errorf("Put(%v) = %x", x.l, got)
		}
		if got := Of(x.l); !sameBrief(got, x.brief) {
			t.Errorf("Of(%v) = %v", x.l, got)
		}
		if got := Right(x.l); got != (x.b != "") {
			t.Errorf("Right(%v) = %v", x.l, got)
		}
		if x.b != "" {
			checkGet(t, x.b, x.l, api.OK)
		}
	}
	checkSort(t, []api.Span{second, first, plain()}, []api.Span{first, plain(), second})
}

// P5.1 and P5.2: of a trace's spans all is as the words say, and they are got of their bytes.
func TestTraces(t *testing.T) {
	for _, l := range traces() {
		if !plainRight(l) {
			t.Fatalf("no trace's: %v", l)
		}
		checkOrdered(t, l)
		checkSort(t, l, l)
	}
}

// P5.1, E1: no span is no trace's, nor are more than 64.
func TestHowMany(t *testing.T) {
	checkNone(t, nil)
	checkNone(t, []api.Span{})
	checkGet(t, "\x00", nil, api.ErrForm)
	for _, n := range []int{1, 2, 63, 64, 65, 66, 127, 128, 129, 255, 256, 257, 321, 1 << 16, 1<<16 + 1, 1<<16 + 64} {
		l := make([]api.Span, n)
		for i := range l {
			l[i] = api.Span{Trace: 3, Id: int64(i + 1), Start: int64(i / 3), Service: "s"}
		}
		if n > 64 {
			checkNone(t, l)
			continue
		}
		checkOrdered(t, l)
		slices.Reverse(l)
		if n > 1 {
			checkNotOrdered(t, l)
		}
		want := slices.Clone(l)
		slices.Reverse(want)
		checkSort(t, l, want)
	}
}

// P5.1, E1 and P1: one span that is not right, wherever it stands, makes all of them no trace's.
func TestNotRight(t *testing.T) {
	for _, n := range []int{1, 2, 3, 64} {
		for _, k := range []int{0, n / 2, n - 1} {
			for _, spoil := range spoils() {
				l := spoilt(row(n), k, spoil)
				if span.Right(l[k]) {
					t.Fatalf("right: %v", l[k])
				}
				checkNone(t, l)
			}
		}
		checkNone(t, make([]api.Span, n))
	}
	for _, spoil := range spoils() { // alike in all of them
		l := row(3)
		for i := range l {
			spoil(&l[i])
		}
		checkNone(t, l)
	}
}

// P5.1, E1: two spans of one Id, wherever they stand, are no trace's: alike, begun together, or apart.
func TestOneId(t *testing.T) {
	for _, n := range []int{2, 3, 4, 7, 64} {
		for i := range n {
			for j := range i {
				if n == 64 && j > 0 && j < i-1 { // the first one, and the one ahead, will do of so many
					continue
				}
				l := make([]api.Span, n)
				for k := range l {
					l[k] = at(int64(k+1), int64(10*k), 5, "s")
				}
				l[i].Id = l[j].Id
				checkNone(t, l)
				l[i].Start = l[j].Start
				checkNone(t, l)
				l[i] = l[j]
				checkNone(t, l)
			}
		}
	}
	l := []api.Span{at(1, 0, 0, "a"), at(1, 0, 1, "b")} // unlike in all but what the order asks
	l[1].Name, l[1].Parent = "other", 9
	checkNone(t, l)
}

// P5.1, E1: spans of two traces are no trace's, wherever the other one's stands.
func TestTwoTraces(t *testing.T) {
	for _, n := range []int{2, 3, 4, 64} {
		for k := range n {
			for _, id := range []int64{1, 4, 6, maxNumber, 5 + 1<<32} {
				checkNone(t, spoilt(row(n), k, func(s *api.Span) { s.Trace = id }))
			}
		}
	}
	checkNone(t, []api.Span{plain(), small()})
	half := row(6)
	for i := range half {
		half[i].Trace += int64(i / 3)
	}
	checkNone(t, half)
}

// P5.1, E1: the Id parts spans that began together; a lesser Id behind a lesser Start is in order.
func TestBeganTogether(t *testing.T) {
	for _, start := range []int64{0, 1, 300, maxNumber} {
		a, b, c := at(2, start, 0, "z"), at(3, start, 0, "y"), at(maxNumber, start, 0, "x")
		checkOrdered(t, []api.Span{a, b, c})
		for _, l := range [][]api.Span{{b, a, c}, {a, c, b}, {c, b, a}, {b, c, a}, {c, a, b}} {
			checkNotOrdered(t, l)
			checkSort(t, l, []api.Span{a, b, c})
		}
	}
	early, late := at(9, 4, 100, "s"), at(1, 5, 0, "s")
	checkOrdered(t, []api.Span{early, late})
	checkNotOrdered(t, []api.Span{late, early})
	checkSort(t, []api.Span{late, early}, []api.Span{early, late})
}

// P5.1, E1: right spans of which one alone is not ahead of the next one, wherever they stand, are not a trace's as they stand, but sorted.
func TestOneNotAhead(t *testing.T) {
	for _, n := range []int{2, 3, 5, 64} {
		for k := range n - 1 {
			l := row(n)
			l[k], l[k+1] = l[k+1], l[k]
			checkNotOrdered(t, l)
			checkSort(t, l, row(n))
		}
	}
}

// P5.3: spans in every order of a few are sorted to the same ones, and are a trace's in that order alone.
func TestEveryOrder(t *testing.T) {
	for _, l := range traces() {
		if len(l) > 5 {
			continue
		}
		orders(l, func(x []api.Span) {
			checkSort(t, x, l)
			if slices.Equal(x, l) {
				checkOrdered(t, x)
			} else {
				checkNotOrdered(t, x)
			}
		})
	}
}

// P5.3: many spans are sorted to the same ones, in whatever order of some.
func TestManyOrders(t *testing.T) {
	for _, want := range [][]api.Span{row(31), row(63), row(64), larges(64)} {
		n := len(want)
		for _, step := range []int{2, 5, 11, 17, 29, 47, 53, 61} {
			if n%step == 0 { // it would come to some of them only
				continue
			}
			l := make([]api.Span, n)
			for i := range l {
				l[i] = want[(i*step+step/2)%n]
			}
			checkSort(t, l, want)
			slices.Reverse(l)
			checkSort(t, l, want)
		}
	}
}

// P5.1, E1 and P5.3: of all lists of up to four of some spans, those are sorted of which one order is a trace's, and to that one.
func TestAllLists(t *testing.T) {
	some := []api.Span{at(1, 0, 7, "a"), at(2, 0, 0, "b"), at(1, 5, 0, "b"), at(3, 5, 1, "a"), at(2, 9, 0, "c"), at(4, 3, 0, "a"), at(5, 3, 0, "")}
	some[5].Trace = 6
	found := 0
	var walk func(l []api.Span)
	walk = func(l []api.Span) {
		var want []api.Span
		orders(l, func(x []api.Span) {
			if plainRight(x) {
				want = slices.Clone(x)
			}
		})
		checkSort(t, l, want)
		if plainRight(l) {
			found++
			checkOrdered(t, l)
		} else {
			checkNotOrdered(t, l)
		}
		if len(l) < 4 {
			for _, s := range some {
				walk(append(slices.Clone(l), s))
			}
		}
	}
	walk(nil)
	if found < 12 {
		t.Errorf("%d traces alone", found)
	}
}

// P5.1, E2: the least Start, the greatest end, whichever span has it, and the number.
func TestBounds(t *testing.T) {
	for _, n := range []int{1, 2, 3, 64} {
		for k := range n {
			l := make([]api.Span, n)
			for i := range l {
				l[i] = at(int64(n-i), int64(100+i), 2, "s")
			}
			l[k].Dur = 5000
			if x := Of(l); !sameBrief(x, api.Brief{Id: 5, From: 100, To: int64(5100 + k), Many: n, Services: []string{"s"}}) {
				t.Errorf("the longest is %d of %d: %v", k, n, x)
			}
		}
	}
	for _, x := range [][4]int64{{0, 0, 0, 0}, {0, maxNumber, 0, maxNumber}, {maxNumber, 0, maxNumber, maxNumber}, {1, maxNumber - 1, 1, maxNumber}, {7, 3, 7, 10}} {
		if b := Of([]api.Span{at(maxNumber, x[0], x[1], "s")}); b.From != x[2] || b.To != x[3] || b.Id != 5 || b.Many != 1 {
			t.Errorf("Start %d, Dur %d: %v", x[0], x[1], b)
		}
	}
}

// P5.1, E2: services of one, of several and of some twice: each once, the least first, by bytes.
func TestServices(t *testing.T) {
	long := strings.Repeat("x", 32)
	for _, x := range [][2][]string{
		{{"a"}, {"a"}}, {{"a", "a"}, {"a"}}, {{"b", "a"}, {"a", "b"}}, {{"a", "b"}, {"a", "b"}}, {{"b", "a", "b"}, {"a", "b"}}, {{"a", "b", "a", "b", "b", "a"}, {"a", "b"}}, {{"c", "c", "a", "b", "a", "c"}, {"a", "b", "c"}},
		{{"ab", "a", "b", "B", "aa"}, {"B", "a", "aa", "ab", "b"}}, {{"10", "9", "1"}, {"1", "10", "9"}}, {{"\xff", "\x00", "\x7f", "\x80", "\x00\x00"}, {"\x00", "\x00\x00", "\x7f", "\x80", "\xff"}},
		{{"\u00e4", "z", "\U0001f600", "\uffee"}, {"z", "\u00e4", "\uffee", "\U0001f600"}}, {{long, long[:31], "x", long}, {"x", long[:31], long}}, {{"a ", "a", " a", "A"}, {" a", "A", "a", "a "}},
	} {
		orderedBy := func(start func(i int) int64) []api.Span {
			l := make([]api.Span, len(x[0]))
			for i, s := range x[0] {
				l[i] = at(int64(i+1), start(i), 1, s)
			}
			l, _ = Sort(l)
			return l
		}
		for _, l := range [][]api.Span{orderedBy(func(i int) int64 { return int64(i) }), orderedBy(func(i int) int64 { return int64(100 - i) }), orderedBy(func(i int) int64 { return 0 })} {
			if b := Of(l); !slices.Equal(b.Services, x[1]) || b.Many != len(x[0]) {
				t.Errorf("%q: %q", x[0], b.Services)
			}
		}
	}
	if b := Of(larges(64)); len(b.Services) != 64 || !slices.IsSorted(b.Services) {
		t.Errorf("%q", b.Services)
	}
}

// P5.4: each span is within what a brief tells, and of one of its services; each bound, and each service, is some span's.
func TestInShort(t *testing.T) {
	for _, l := range traces() {
		b := Of(l)
		from, to, of := 0, 0, map[string]int{}
		for _, s := range l {
			if s.Trace != b.Id || s.Start < b.From || span.End(s) > b.To || !slices.Contains(b.Services, s.Service) {
				t.Fatalf("%v is not within %v", s, b)
			}
			if s.Start == b.From {
				from++
			}
			if span.End(s) == b.To {
				to++
			}
			of[s.Service]++
		}
		if from == 0 || to == 0 || len(of) != len(b.Services) || b.Many != len(l) {
			t.Fatalf("%v of %v", b, l)
		}
		for i, s := range b.Services {
			if of[s] == 0 || i > 0 && b.Services[i-1] >= s {
				t.Fatalf("%q", b.Services)
			}
		}
	}
}

// P5.1, E3: a number of spans that is cut, 0, above 64, or no number, whatever is behind it.
func TestGetNumber(t *testing.T) {
	for _, b := range []string{"", "\x80", "\xff", "\xc0", "\x80\x80\x80\x80\x80\x80", "\xff\xff\xff\xff\xff\xff"} {
		checkGet(t, b, nil, api.ErrShort)
	}
	one := string(span.Put(nil, small()))
	many := make([]api.Span, 70)
	for i := range many {
		many[i] = at(int64(i+1), 0, 0, "s")
	}
	for _, n := range []string{
		"\x00", "\x41", "\x42", "\x7f", "\x80\x01", "\x81\x01", "\x81\x02", "\x80\x02", "\xc0\x02", "\x81\x80\x04", "\x80\x80\x80\x80\x10", "\x81\x80\x80\x80\x10", "\x80\x80\x80\x80\x80\x80\x40",
		"\x80\x00", "\x81\x00", "\xc0\x00", "\x81\x80\x00", "\x80\x80\x80\x80\x80\x80\x80", "\x81\x80\x80\x80\x80\x80\x40", "\xff\xff\xff\xff\xff\xff\x7f",
	} {
		for _, behind := range []string{"", one, one[:3], "\x80", "\x80\x00", raw(0, many[:65]...)[1:], raw(0, many[:64]...)[1:], raw(0, many...)[1:]} {
			checkGet(t, n+behind, nil, api.ErrForm)
		}
	}
	checkGet(t, "\x40"+raw(0, many[:64]...)[1:], many[:64], api.OK)
	checkGet(t, "\x40"+raw(0, many[:65]...)[1:], nil, api.ErrForm)
	checkGet(t, "\x40"+raw(0, many[:63]...)[1:], nil, api.ErrShort)
	if l, e := Get(nil); len(l) != 0 || e != api.ErrShort {
		t.Error(l, e)
	}
}

// notRight are a span's parts, of which one is none, or all are there of a span that is not right.
func notRight() []string {
	return []string{
		"\x00\x06\x07\xac\x02\x02\x01a\x02bc", "\x05\x00\x07\xac\x02\x02\x01a\x02bc", "\x05\x06\x07\xac\x02\x02\x00\x02bc",
		"\x05\x06\x07\x80\x80\x80\x80\x80\x80\x40\x02\x01a\x02bc", "\x05\x06\x07\x01\x80\x80\x80\x80\x80\x80\x40\x01a\x02bc",
		"\x80\x00\x06\x07\xac\x02\x02\x01a\x02bc", "\x05\x06\x80\x00", "\x05\x06\x07\xac\x02\x02\x21", "\x05\x06\x07\xac\x02\x02\x01a\x21",
	}
}

// P5.1, E3: a span that is cut, at any place, or is not right, has span.Get's error, whichever one it is.
func TestGetSpan(t *testing.T) {
	whole := string(span.Put(nil, plain()))
	for _, n := range []int64{1, 2, 3, 64} {
		for k := range n {
			ahead := raw(n, row(int(k))...)
			for cut := range whole {
				checkGet(t, ahead+whole[:cut], nil, api.ErrShort)
			}
			for _, w := range notRight() {
				checkGet(t, ahead+w, nil, api.ErrForm)
				checkGet(t, ahead+w+whole, nil, api.ErrForm)
				checkGet(t, ahead+w+whole[:4], nil, api.ErrForm)
			}
		}
	}
}

// P5.1, E3 and P2: the first span that has an error tells it; a span's error comes ahead of what is wrong with all of them.
func TestGetFirst(t *testing.T) {
	x, y := row(3)[2], row(3)[0]
	other := y
	other.Trace++
	whole := string(span.Put(nil, plain()))
	for _, l := range [][]api.Span{{x, y}, {x, x}, {y, other}, {y, y}} { // no trace's
		for cut := range whole {
			checkGet(t, raw(3, l...)+whole[:cut], nil, api.ErrShort)
		}
		for _, w := range notRight() {
			checkGet(t, raw(3, l...)+w, nil, api.ErrForm)
		}
		checkGet(t, raw(2, l...), nil, api.ErrForm)
		checkGet(t, raw(2, l...)+"\x80", nil, api.ErrForm)
	}
}

// P5.1, E3: something behind the last span is ErrForm, whatever it is.
func TestGetBehind(t *testing.T) {
	for _, l := range traces() {
		for _, behind := range []string{"\x00", "z", "\x80", "\x80\x00", string(span.Put(nil, plain())), string(span.Put(nil, at(maxNumber, maxNumber, 0, "s"))), raw(int64(len(l)), l...), strings.Repeat("\x00", 5000)} {
			checkGet(t, raw(int64(len(l)), l...)+behind, nil, api.ErrForm)
		}
	}
}

// P5.1, E3: right spans that are not a trace's are ErrForm, and the same ones sorted are got.
func TestGetNotOrdered(t *testing.T) {
	for _, l := range traces() {
		if len(l) == 1 {
			continue
		}
		n := int64(len(l))
		back := slices.Clone(l)
		slices.Reverse(back)
		checkGet(t, raw(n, back...), nil, api.ErrForm)
		sorted, _ := Sort(back)
		checkGet(t, raw(n, sorted...), l, api.OK)
		for k := range l {
			if k > 0 {
				checkGet(t, raw(n, spoilt(l, k, func(s *api.Span) { *s = l[k-1] })...), nil, api.ErrForm)
				checkGet(t, raw(n, spoilt(l, k, func(s *api.Span) { s.Id = l[k-1].Id })...), nil, api.ErrForm)
			}
			checkGet(t, raw(n, spoilt(l, k, func(s *api.Span) { s.Trace = s.Trace/2 + 1 })...), nil, api.ErrForm)
		}
	}
}

// P5.1, E3: bytes that are cut, at each place, are ErrShort, whatever stands in their spare room.
func TestCut(t *testing.T) {
	for _, l := range traces() {
		b := Put(l)
		for k := range b {
			for _, c := range [][]byte{b[:k:k], b[:k]} {
				if got, e := Get(c); e != api.ErrShort || len(got) != 0 {
					t.Fatalf("%d of %d bytes: %v, %d", k, len(b), got, int(e))
				}
			}
		}
	}
}

// P5.1, E3, P5.2 and P1: Get is what the words say of bytes in which one or two are any others; what is got is right, and has the bytes.
func TestGetChanged(t *testing.T) {
	body := []byte(raw(3, at(9, 0, 1, "a"), at(4, 3, 1, "b"), at(6, 3, 0, "a")) + "\x00")
	found := 0
	check := func(b []byte) {
		checkPlain(t, string(b))
		checkPlain(t, string(b[:len(b)-1]))
		if _, e := Get(b[:len(b)-1]); e == api.OK {
			found++
		}
	}
	some := []byte{0, 1, 2, 3, 4, 5, 9, 0x40, 0x41, 0x7f, 0x80, 0xff}
	for i := range body {
		b := bytes.Clone(body)
		for c := range 256 {
			b[i] = byte(c)
			check(b)
		}
		for j := range i {
			for k := range len(some) * len(some) {
				b[i], b[j] = some[k/len(some)], some[k%len(some)]
				check(b)
			}
			b[j] = body[j]
		}
	}
	if found < 1000 {
		t.Errorf("%d traces alone", found)
	}
}

// FuzzGet holds Get to the plain words at whatever bytes there are.
func FuzzGet(f *testing.F) {
	for _, l := range traces()[:12] {
		f.Add(Put(l))
		f.Add([]byte(raw(int64(len(l)+1), l...)))
	}
	f.Fuzz(func(t *testing.T, b []byte) {
		before := string(b)
		checkPlain(t, before)
		Get(b)
		if string(b) != before {
			t.Errorf("the bytes have changed: %x", b)
		}
	})
}

// P3: no call changes a list, or its spare room, that it is handed; the same comes of the same.
func TestListStays(t *testing.T) {
	back := row(6)
	slices.Reverse(back)
	for _, whole := range [][]api.Span{row(6), back, slices.Concat(back, row(6)), slices.Concat(row(2), make([]api.Span, 3)), larges(64)} {
		before := slices.Clone(whole)
		for n := range len(whole) + 1 {
			l := whole[:n]
			right, brief, b := Right(l), Of(l), Put(l)
			sorted, is := Sort(l)
			if !slices.Equal(whole, before) {
				t.Fatalf("the list, or its spare room, has changed: %v", whole)
			}
			again, isAgain := Sort(l)
			if Right(l) != right || !sameBrief(Of(l), brief) || !bytes.Equal(Put(l), b) || !slices.Equal(again, sorted) || isAgain != is {
				t.Fatalf("another answer of the same: %v", l)
			}
		}
	}
}

// P3: what comes out is new memory, its spare room too: to change it changes neither the list, nor another answer.
func TestNewMemory(t *testing.T) {
	for _, n := range []int{1, 2, 3, 5, 64} {
		whole := append(row(n), make([]api.Span, 8)...)
		l := whole[:n]
		before := slices.Clone(whole)
		sorted, _ := Sort(l)
		kept, _ := Sort(l)
		brief, keptBrief := Of(l), Of(l)
		b, keptBytes := Put(l), Put(l)
		got, _ := Get(keptBytes)
		keptGot, _ := Get(keptBytes)
		for _, x := range [][]api.Span{sorted, got} {
			for i := range x[:cap(x)] {
				x[:cap(x)][i] = plain()
			}
		}
		for i := range brief.Services[:cap(brief.Services)] {
			brief.Services[:cap(brief.Services)][i] = "other"
		}
		clear(b[:cap(b)])
		if !slices.Equal(whole, before) || !slices.Equal(kept, l) || !slices.Equal(keptGot, l) || !sameBrief(keptBrief, plainOf(l)) || string(keptBytes) != raw(int64(n), l...) {
			t.Errorf("%d spans: something else has changed", n)
		}
	}
}

// P3: Get reads alone; what was got stays as it is when the bytes change; an error leaves nothing behind for the next call.
func TestReadAlone(t *testing.T) {
	l := row(4)
	whole := append(Put(l), bytes.Repeat([]byte{0xa5}, 100)...)
	b := whole[:len(whole)-100]
	before := string(whole)
	got, _ := Get(b)
	Get(b[:9])
	Get(whole)
	if string(whole) != before {
		t.Errorf("the bytes, or their spare room, have changed: %x", whole)
	}
	checkGet(t, string(b), l, api.OK)
	clear(whole)
	if !slices.Equal(got, l) {
		t.Errorf("the spans have changed: %v", got)
	}
}

// Ways: services are told by an iterator, each once, and as few as are asked for.
func TestIterator(t *testing.T) {
	l := []api.Span{at(1, 0, 0, "b"), at(2, 0, 0, "a"), at(3, 0, 0, "b"), at(4, 0, 0, "c"), at(5, 0, 0, "a")}
	want := []string{"b", "a", "c"}
	for most := range 4 {
		var got []string
		for s := range services(l) {
			if len(got) == most {
				break
			}
			got = append(got, s)
		}
		if !slices.Equal(got, want[:most]) {
			t.Errorf("%d: %q", most, got)
		}
	}
	if got := slices.Collect(services(nil)); len(got) != 0 {
		t.Errorf("%q", got)
	}
}
