package order

import (
	"math"
	"slices"
	"testing"

	"turntable/api"
)

const (
	maxNumber = 1 << 48
	greatCost = 1 << 20
	greatSum  = 1 << 40
)

// item is a right one, not pinned, of a number, a class, a tick and a cost.
func item(id int64, class int, tick int64, cost int) api.Item {
	return api.Item{Id: id, Class: class, Tick: tick, Cost: cost}
}

// pinned is the same item, pinned.
func pinned(x api.Item) api.Item {
	x.Pinned = true
	return x
}

// wrongs are items that are not right, each for a reason of its own; each would go first, and cost much, if it were.
func wrongs() []api.Item {
	var out []api.Item
	for _, id := range []int64{math.MinInt64, -maxNumber, -1, 0, maxNumber + 1, math.MaxInt64} {
		out = append(out, item(id, 0, 0, 500))
	}
	for _, class := range []int{math.MinInt, -1, 8, 9, 256, math.MaxInt} {
		out = append(out, item(1, class, 0, 500))
	}
	for _, tick := range []int64{math.MinInt64, -1, maxNumber + 1, math.MaxInt64} {
		out = append(out, item(1, 0, tick, 500))
	}
	for _, cost := range []int{math.MinInt, -500, -1, greatCost + 1, 1 << 32, math.MaxInt} {
		out = append(out, item(1, 0, 0, cost))
	}
	out = append(out, api.Item{})
	for _, x := range slices.Clone(out) {
		out = append(out, pinned(x))
	}
	return out
}

// row is n right items, in no order, of which some are alike in all that the order asks, and unlike in Cost.
func row(n int) []api.Item {
	l := make([]api.Item, n)
	for i := range l {
		l[i] = api.Item{Id: int64(1 + i*7%5), Class: i * 5 % 3, Tick: int64(i * 11 % 4), Cost: i, Pinned: i%7 == 3}
	}
	return l
}

// mixed is a list with an item that is not right behind each one.
func mixed(l []api.Item) []api.Item {
	var out []api.Item
	for i, w := range wrongs() {
		out = append(out, w)
		if i < len(l) {
			out = append(out, l[i])
		}
	}
	return append(out, l[min(len(l), len(wrongs())):]...)
}

// lists are lists of all sorts: none, one, right ones, wrong ones, both, pinned ones, alike ones, many.
func lists() [][]api.Item {
	few := []api.Item{item(4, 1, 5, 5), item(1, 1, 5, 10), item(2, 0, 9, 20), pinned(item(3, 0, 1, 30))}
	return [][]api.Item{
		nil, {}, {item(1, 0, 0, 0)}, {item(1, 0, 0, 7)}, {pinned(item(1, 0, 0, 7))}, {{}},
		few, mixed(few), wrongs(), row(5), row(13), row(40), mixed(row(13)), mixed(row(60)),
		{item(1, 0, 0, 3), item(1, 0, 0, 2), item(1, 0, 0, 1)}, {pinned(item(1, 0, 0, 3)), pinned(item(2, 0, 0, 4))},
		{item(maxNumber, 7, maxNumber, greatCost), item(1, 0, 0, greatCost), pinned(item(2, 3, 4, greatCost))},
		{item(1, 0, 1, 0), item(2, 0, 2, 4), item(3, 0, 3, 0), item(4, 0, 4, 0), item(5, 0, 5, 4), item(6, 0, 6, 0)},
	}
}

// plainRight is the chapter's words for an item that is right.
func plainRight(x api.Item) bool {
	return x.Id >= 1 && x.Id <= 281474976710656 && x.Class >= 0 && x.Class <= 7 && x.Tick >= 0 && x.Tick <= 281474976710656 && x.Cost >= 0 && x.Cost <= 1048576
}

// plainFirst is what F1 says of First, word for word.
func plainFirst(a, b api.Item) bool {
	if a.Class < b.Class {
		return true
	}
	if a.Class == b.Class && a.Tick < b.Tick {
		return true
	}
	return a.Class == b.Class && a.Tick == b.Tick && a.Id < b.Id
}

// plainSort puts each right one that is not pinned behind all of those so far that it is not first of.
func plainSort(l []api.Item) []api.Item {
	var out []api.Item
	for _, x := range l {
		if !plainRight(x) || x.Pinned {
			continue
		}
		at := len(out)
		for at > 0 && plainFirst(x, out[at-1]) {
			at--
		}
		out = slices.Insert(out, at, x)
	}
	return out
}

// plainCost is what those of a list that are right, and fit, cost together.
func plainCost(l []api.Item, fits func(x api.Item) bool) int {
	sum := 0
	for _, x := range l {
		if plainRight(x) && fits(x) {
			sum += x.Cost
		}
	}
	return sum
}

func isAny(x api.Item) bool    { return true }
func isPinned(x api.Item) bool { return x.Pinned }

// plainVictims is what F2 says, word for word: of the first ones of Sort none, one, two and so on are tried, until there is room.
func plainVictims(l []api.Item, in int, budget int) ([]int64, bool) {
	if in < 0 || in > 1099511627776 || budget < 0 || budget > 1099511627776 || in+plainCost(l, isPinned) > budget {
		return nil, false
	}
	sorted := plainSort(l)
	for n := range len(sorted) + 1 {
		if in+plainCost(l, isPinned)+plainCost(sorted[n:], isAny) <= budget {
			return ids(sorted[:n]), true
		}
	}
	panic("no room without all of them")
}

func ids(l []api.Item) []int64 {
	var out []int64
	for _, x := range l {
		out = append(out, x.Id)
	}
	return out
}

func checkVictims(t *testing.T, l []api.Item, in int, budget int, want []int64, is bool) {
	t.Helper()
	if got, ok := Victims(l, in, budget); !slices.Equal(got, want) || ok != is {
		t.Fatalf("Victims(%v, %d, %d) = %v, %v; want %v, %v", l, in, budget, got, ok, want, is)
	}
}

// checkPlain holds Victims to the plain words, and to what P6.3 says.
func checkPlain(t *testing.T, l []api.Item, in int, budget int) {
	t.Helper()
	want, is := plainVictims(l, in, budget)
	checkVictims(t, l, in, budget, want, is)
	if is && len(want) > 0 {
		sorted := plainSort(l)
		n := len(want)
		without := in + plainCost(l, isPinned) + plainCost(sorted[n-1:], isAny)
		if without <= budget || sorted[n-1].Cost == 0 {
			t.Fatalf("%v, %d, %d: there is room without the last one of %v", l, in, budget, want)
		}
	}
}

func checkSort(t *testing.T, l []api.Item, want []api.Item) {
	t.Helper()
	if got := Sort(l); !slices.Equal(got, want) {
		t.Fatalf("Sort(%v) = %v; want %v", l, got, want)
	}
}

func checkCost(t *testing.T, l []api.Item, all int, pinned int) {
	t.Helper()
	if a, p := Cost(l); a != all || p != pinned {
		t.Fatalf("Cost(%v) = %d, %d; want %d, %d", l, a, p, all, pinned)
	}
}

// orders calls do with a list in every order.
func orders(l []api.Item, do func(l []api.Item)) {
	var walk func(ahead, rest []api.Item)
	walk = func(ahead, rest []api.Item) {
		if len(rest) == 0 {
			do(ahead)
		}
		for i, x := range rest {
			walk(append(slices.Clone(ahead), x), slices.Delete(slices.Clone(rest), i, i+1))
		}
	}
	walk(nil, l)
}

// pins calls do with a list of which each choice of some is pinned.
func pins(l []api.Item, do func(l []api.Item)) {
	for bits := range 1 << len(l) {
		out := slices.Clone(l)
		for i := range out {
			out[i].Pinned = bits>>i&1 == 1
		}
		do(out)
	}
}

// P6.1, F1, F2: the chapter's example: of Class 0 and Class 1, Class 0 goes.
func TestExample(t *testing.T) {
	zero, one := item(9, 0, 9, 10), item(1, 1, 1, 10)
	if !First(zero, one) || First(one, zero) {
		t.Error("Class 1 is first")
	}
	for _, l := range [][]api.Item{{zero, one}, {one, zero}} {
		checkSort(t, l, []api.Item{zero, one})
		checkVictims(t, l, 5, 20, []int64{9}, true)
	}
}

// P6.1, F1: each part of an item at its edges, whatever the others are.
func TestRight(t *testing.T) {
	for _, x := range []api.Item{item(1, 0, 0, 0), item(maxNumber, 7, maxNumber, greatCost), item(5, 3, 300, 20)} {
		for _, x := range []api.Item{x, pinned(x)} {
			check := func(want bool, y api.Item) {
				t.Helper()
				if Right(y) != want {
					t.Errorf("Right(%v) is not %v", y, want)
				}
			}
			for n, want := range map[int64]bool{math.MinInt64: false, -1: false, 0: false, 1: true, 2: true, 1 << 32: true, maxNumber - 1: true, maxNumber: true, maxNumber + 1: false, 1 << 49: false, math.MaxInt64: false} {
				check(want, api.Item{Id: n, Class: x.Class, Tick: x.Tick, Cost: x.Cost, Pinned: x.Pinned})
				check(want || n == 0, api.Item{Id: x.Id, Class: x.Class, Tick: n, Cost: x.Cost, Pinned: x.Pinned})
			}
			for n, want := range map[int]bool{math.MinInt: false, -1: false, 0: true, 1: true, 6: true, 7: true, 8: false, 256: false, 1 << 32: false, math.MaxInt: false} {
				check(want, api.Item{Id: x.Id, Class: n, Tick: x.Tick, Cost: x.Cost, Pinned: x.Pinned})
			}
			for n, want := range map[int]bool{math.MinInt: false, -1: false, 0: true, 1: true, greatCost - 1: true, greatCost: true, greatCost + 1: false, 1 << 32: false, math.MaxInt: false} {
				check(want, api.Item{Id: x.Id, Class: x.Class, Tick: x.Tick, Cost: n, Pinned: x.Pinned})
			}
		}
	}
	for _, x := range wrongs() {
		if Right(x) {
			t.Errorf("Right(%v)", x)
		}
	}
}

// P6.1, F1: two items that differ in Class, in Tick or in Id alone, and two that are alike in all three; what they cost, and whether they are pinned, or right, does not count.
func TestFirst(t *testing.T) {
	check := func(a, b api.Item, want bool) {
		t.Helper()
		for bits := range 16 {
			a.Pinned, b.Pinned = bits&1 != 0, bits&2 != 0
			a.Cost, b.Cost = bits&4, bits&8
			if First(a, b) != want {
				t.Fatalf("First(%v, %v) is not %v", a, b, want)
			}
		}
	}
	for _, x := range []api.Item{item(1, 0, 0, 0), item(maxNumber-1, 6, maxNumber-1, 9), item(5, 3, 300, 20)} {
		check(x, x, false)
		class, tick, id := x, x, x
		class.Class++
		tick.Tick++
		id.Id++
		for _, y := range []api.Item{class, tick, id} {
			check(x, y, true)
			check(y, x, false)
		}
	}
	// The Class counts ahead of the Tick, and the Tick ahead of the Id.
	check(item(9, 1, 9, 0), item(2, 2, 2, 0), true)
	check(item(2, 2, 2, 0), item(9, 1, 9, 0), false)
	check(item(9, 1, 2, 0), item(2, 1, 3, 0), true)
	check(item(2, 1, 3, 0), item(9, 1, 2, 0), false)
	check(item(2, 1, 9, 0), item(1, 2, 9, 0), true)
	low, high := item(math.MinInt64, math.MinInt, math.MinInt64, 0), item(math.MaxInt64, math.MaxInt, math.MaxInt64, 0)
	check(low, high, true) // their difference would wrap round
	check(high, low, false)
	check(item(math.MinInt64, 0, 0, 0), item(math.MaxInt64, 0, 0, 0), true)
	check(item(0, 0, math.MaxInt64, 0), item(0, 0, math.MinInt64, 0), false)
	check(item(1, 0, 1<<32, 0), item(1, 0, 1<<32+1, 0), true)
	check(api.Item{}, api.Item{}, false)
}

// P6.2: First is a strict order of Class, Tick and Id: none is first of itself, of two that differ in one of the three one is first, and what is first of one that is first is first, too.
func TestStrictOrder(t *testing.T) {
	var some []api.Item
	for _, class := range []int{-1, 0, 1, 7, 8} {
		for _, tick := range []int64{math.MinInt64, 0, 1, maxNumber} {
			for _, id := range []int64{0, 1, 2, math.MaxInt64} {
				some = append(some, api.Item{Id: id, Class: class, Tick: tick, Cost: len(some) % 5, Pinned: len(some)%3 == 0})
			}
		}
	}
	some = append(some, item(1, 1, 1, 99), pinned(item(2, 7, maxNumber, 3)))
	for _, a := range some {
		for _, b := range some {
			alike := a.Class == b.Class && a.Tick == b.Tick && a.Id == b.Id
			if First(a, b) != plainFirst(a, b) || First(a, b) && First(b, a) || alike == (First(a, b) || First(b, a)) {
				t.Fatalf("%v and %v: %v, %v", a, b, First(a, b), First(b, a))
			}
			for _, c := range some {
				if First(a, b) && First(b, c) && !First(a, c) {
					t.Fatalf("%v, %v and %v", a, b, c)
				}
			}
		}
	}
}

// P6.1, F1: no item; items that are known by hand, in every order; pinned ones, and such as are not right, among them.
func TestSort(t *testing.T) {
	checkSort(t, nil, nil)
	checkSort(t, []api.Item{}, nil)
	checkSort(t, wrongs(), nil)
	checkSort(t, []api.Item{pinned(item(1, 0, 0, 5)), pinned(item(2, 1, 0, 5))}, nil)
	want := []api.Item{item(9, 0, 7, 1), item(2, 1, 4, 2), item(3, 1, 4, 3), item(1, 1, 5, 4), item(1, 7, 0, 5)}
	orders(want, func(l []api.Item) {
		checkSort(t, l, want)
		checkSort(t, mixed(l), want)
		l = slices.Insert(slices.Clone(l), 2, pinned(item(4, 0, 0, 5)), api.Item{}, pinned(item(3, 1, 4, 3)))
		checkSort(t, l, want)
	})
	edges := []api.Item{item(1, 0, 0, 0), item(maxNumber, 0, 0, greatCost), item(1, 0, maxNumber, 0), item(1, 7, 0, 0), item(maxNumber, 7, maxNumber, greatCost)}
	orders(edges, func(l []api.Item) { checkSort(t, l, edges) })
	for _, l := range lists() {
		checkSort(t, l, plainSort(l))
	}
}

// P6.1, F1: alike ones stay in the order in which they came, of a few in every order, and of many.
func TestSortAlike(t *testing.T) {
	orders([]api.Item{item(1, 1, 1, 1), item(1, 1, 1, 2), item(1, 1, 1, 3), pinned(item(1, 1, 1, 4)), item(1, 0, 1, 5), item(1, 1, 2, 6)}, func(l []api.Item) {
		checkSort(t, l, plainSort(l))
	})
	for _, n := range []int{2, 12, 13, 50, 51, 500, 3000} {
		l, alike := make([]api.Item, n), make([]api.Item, n)
		for i := range l {
			l[i] = item(int64(1+i*i%3), i*i%2, int64(i*7%2), i)
			alike[i] = item(5, 5, 5, i)
		}
		checkSort(t, l, plainSort(l))
		checkSort(t, alike, alike)
		slices.Reverse(l)
		checkSort(t, l, plainSort(l))
	}
}

// P6.1, F1: what all cost, and what the pinned ones do, with none, some and all of them pinned; those that are not right cost nothing.
func TestCost(t *testing.T) {
	checkCost(t, nil, 0, 0)
	checkCost(t, []api.Item{}, 0, 0)
	checkCost(t, wrongs(), 0, 0)
	a, b, c := item(1, 0, 0, 1), item(2, 7, 5, 20), item(1, 3, 9, 300)
	checkCost(t, []api.Item{a, b, c}, 321, 0)
	checkCost(t, []api.Item{a, pinned(b), c}, 321, 20)
	checkCost(t, []api.Item{pinned(a), b, pinned(c)}, 321, 301)
	checkCost(t, []api.Item{pinned(a), pinned(b), pinned(c)}, 321, 321)
	checkCost(t, mixed([]api.Item{a, pinned(b), c}), 321, 20)
	checkCost(t, []api.Item{a, a, pinned(a), pinned(a), pinned(a)}, 5, 3)
	checkCost(t, []api.Item{item(1, 0, 0, 0), pinned(item(1, 0, 0, 0))}, 0, 0)
	pins([]api.Item{a, b, c, a}, func(l []api.Item) { checkCost(t, l, 322, plainCost(l, isPinned)) })
	many := make([]api.Item, 5000) // more than 32 bits hold
	for i := range many {
		many[i] = api.Item{Id: 1, Cost: greatCost, Pinned: i%5 != 0}
	}
	checkCost(t, many, 5000*greatCost, 4000*greatCost)
	for _, l := range lists() {
		checkCost(t, l, plainCost(l, isAny), plainCost(l, isPinned))
	}
}

// P6.1, F2 and P1: in and budget at their bounds.
func TestVictimsBounds(t *testing.T) {
	good := func(n int) bool { return n >= 0 && n <= greatSum }
	numbers := []int{math.MinInt, -greatSum, -1, 0, 1, greatSum - 1, greatSum, greatSum + 1, 1 << 41, 1 << 50, math.MaxInt - 1, math.MaxInt}
	for _, in := range numbers {
		for _, budget := range numbers {
			is := good(in) && good(budget) && in <= budget
			checkVictims(t, nil, in, budget, nil, is)
			checkVictims(t, wrongs(), in, budget, nil, is)
			for _, l := range lists() {
				checkPlain(t, l, in, budget)
			}
		}
	}
	one := []api.Item{item(7, 0, 0, 1)}
	checkVictims(t, one, greatSum, greatSum, []int64{7}, true)
	checkVictims(t, one, greatSum-1, greatSum, nil, true)
	checkVictims(t, one, greatSum+1, greatSum+1, nil, false)
	checkVictims(t, one, 0, greatSum+1, nil, false)
	checkVictims(t, one, 0, 0, []int64{7}, true)
	checkVictims(t, one, -1, 0, nil, false)
	checkVictims(t, one, 0, -1, nil, false)
	checkVictims(t, one, -1, -1, nil, false)
}

// P6.1, F2: what comes in, and what the pinned ones cost, together just the budget, and one above it.
func TestVictimsPinned(t *testing.T) {
	hold := pinned(item(3, 0, 0, 30))
	free := item(4, 7, 9, 10)
	for _, in := range []int{0, 1, 50, greatSum - 30} {
		checkVictims(t, []api.Item{hold}, in, in+30, nil, true)
		checkVictims(t, []api.Item{free, hold}, in, in+30, []int64{4}, true)
		checkVictims(t, []api.Item{hold, free}, in, in+29, nil, false)
		checkVictims(t, []api.Item{hold}, in, in+29, nil, false)
	}
	checkVictims(t, []api.Item{hold, pinned(free)}, 10, 50, nil, true)
	checkVictims(t, []api.Item{hold, pinned(free)}, 10, 49, nil, false)
	checkVictims(t, []api.Item{pinned(item(1, 0, 0, 0)), item(2, 7, 7, 5)}, 0, 0, []int64{2}, true)
	// A pinned one that is not right holds nothing.
	checkVictims(t, mixed([]api.Item{hold, free}), 10, 40, []int64{4}, true)
	checkVictims(t, mixed([]api.Item{hold, free}), 11, 40, nil, false)
	checkVictims(t, []api.Item{pinned(item(1, 0, 0, greatCost)), pinned(item(2, 0, 0, greatCost))}, greatSum-2*greatCost, greatSum, nil, true)
	checkVictims(t, []api.Item{pinned(item(1, 0, 0, greatCost)), pinned(item(2, 0, 0, greatCost))}, greatSum-2*greatCost+1, greatSum, nil, false)
}

// P6.1, F2: room for all, just enough, one short of it, and for none but the pinned ones.
func TestVictimsRoom(t *testing.T) {
	want := []int64{2, 1, 4} // they cost 20, 10 and 5
	few := []api.Item{item(4, 1, 5, 5), item(1, 1, 5, 10), item(2, 0, 9, 20), pinned(item(3, 0, 1, 30))}
	orders(few, func(l []api.Item) {
		for _, l := range [][]api.Item{l, mixed(l)} {
			for _, x := range []struct{ in, many int }{{0, 0}, {14, 0}, {15, 0}, {16, 1}, {35, 1}, {36, 2}, {45, 2}, {46, 3}, {50, 3}} {
				checkVictims(t, l, x.in, 80, want[:x.many], true)
				checkVictims(t, l, x.in+1000, 1080, want[:x.many], true)
			}
			checkVictims(t, l, 51, 80, nil, false)
			checkVictims(t, l, 0, 30, want, true)
			checkVictims(t, l, 0, 29, nil, false)
		}
	})
	great := []api.Item{item(1, 0, 1, greatCost), item(2, 0, 2, greatCost), item(3, 0, 3, greatCost)}
	checkVictims(t, great, 0, 3*greatCost, nil, true)
	checkVictims(t, great, 0, 3*greatCost-1, []int64{1}, true)
	checkVictims(t, great, 1, 3*greatCost, []int64{1}, true)
	checkVictims(t, great, greatCost+1, 3*greatCost, []int64{1, 2}, true)
	checkVictims(t, great, 3*greatCost, 3*greatCost, []int64{1, 2, 3}, true)
	checkVictims(t, great, 3*greatCost+1, 3*greatCost, nil, false)
}

// P6.1, F2 and P6.3: items of cost 0 go where one behind them must, and not behind the last one that must.
func TestVictimsNoCost(t *testing.T) {
	l := []api.Item{item(1, 0, 1, 0), item(2, 0, 2, 4), item(3, 0, 3, 0), item(4, 0, 4, 0), item(5, 0, 5, 4), item(6, 0, 6, 0)}
	orders(l, func(l []api.Item) {
		checkVictims(t, l, 0, 8, nil, true)
		checkVictims(t, l, 1, 8, []int64{1, 2}, true)
		checkVictims(t, l, 4, 8, []int64{1, 2}, true)
		checkVictims(t, l, 5, 8, []int64{1, 2, 3, 4, 5}, true)
		checkVictims(t, l, 8, 8, []int64{1, 2, 3, 4, 5}, true)
		checkVictims(t, l, 9, 8, nil, false)
	})
	none := []api.Item{item(1, 0, 0, 0), item(2, 0, 0, 0)}
	checkVictims(t, none, 0, 0, nil, true)
	checkVictims(t, none, 5, 5, nil, true)
	checkVictims(t, none, 6, 5, nil, false)
}

// P6.1, F2: items of one number are items of their own: one may go, and the other one stay.
func TestVictimsOneNumber(t *testing.T) {
	l := []api.Item{item(1, 0, 0, 3), item(1, 0, 0, 2), pinned(item(1, 0, 0, 1)), item(1, 1, 0, 4)}
	checkVictims(t, l, 0, 10, nil, true)
	checkVictims(t, l, 3, 10, []int64{1}, true)
	checkVictims(t, l, 4, 10, []int64{1, 1}, true)
	checkVictims(t, l, 6, 10, []int64{1, 1, 1}, true)
	checkVictims(t, l, 9, 10, []int64{1, 1, 1}, true)
	checkVictims(t, l, 10, 10, nil, false)
}

// P6.3: in every order of a few items, of which each choice is pinned, at each budget: none that goes is pinned, none that stays ahead of one that goes, and without the last one there would not be room.
func TestAsFew(t *testing.T) {
	few := []api.Item{item(1, 1, 5, 2), item(2, 0, 9, 3), item(3, 0, 1, 1), item(4, 1, 5, 0), item(5, 7, 0, 4)}
	orders(few, func(l []api.Item) {
		pins(l, func(l []api.Item) {
			for budget := range 12 {
				for _, in := range []int{0, 1, 5} {
					checkPlain(t, l, in, budget)
					checkFew(t, l, in, budget)
				}
			}
		})
	})
}

// checkFew holds Victims to P6.3's words, of items of which each has a number of its own.
func checkFew(t *testing.T, l []api.Item, in int, budget int) {
	t.Helper()
	goes, is := Victims(l, in, budget)
	if !is || len(goes) == 0 {
		return
	}
	left, last := in, 0
	for _, x := range l {
		if !slices.Contains(goes, x.Id) {
			left += x.Cost
			continue
		}
		if x.Id == goes[len(goes)-1] {
			last = x.Cost
		}
		for _, y := range l {
			if x.Pinned || !y.Pinned && First(y, x) && !slices.Contains(goes, y.Id) {
				t.Fatalf("%v, %d, %d: %v goes, and %v does not", l, in, budget, x, y)
			}
		}
	}
	if left > budget || left+last <= budget {
		t.Fatalf("%v, %d, %d: %v go", l, in, budget, goes)
	}
}

// P6.1, F2: of lists of all sorts Victims are what the words say, at each budget about what they cost.
func TestVictimsLists(t *testing.T) {
	for _, l := range lists() {
		all, pinned := Cost(l)
		for _, in := range []int{0, 1, 17, all, greatCost} {
			for _, budget := range []int{0, in, in + pinned - 1, in + pinned, in + pinned + 1, in + (all+pinned)/2, in + all - 1, in + all, in + all + 1, greatSum} {
				checkPlain(t, l, in, budget)
			}
		}
		for budget := range min(all+3, 900) {
			checkPlain(t, l, 2, budget)
		}
	}
}

// fromBytes are items of four bytes each, most of them right, and many alike.
func fromBytes(b []byte) []api.Item {
	var l []api.Item
	for ; len(b) >= 4; b = b[4:] {
		l = append(l, api.Item{Id: int64(b[0] % 16), Class: int(b[1]%10) - 1, Tick: int64(b[2]%8) - 1, Cost: int(b[3]%32) - 1, Pinned: b[1] >= 200})
	}
	return l
}

// FuzzVictims holds all calls to the plain words, of whatever items there are.
func FuzzVictims(f *testing.F) {
	f.Add([]byte("\x01\x02\x03\x04\x01\x02\x03\x05\x02\xd1\x03\x04"), 3, 9)
	f.Add([]byte("\x04\x01\x05\x06\x03\x01\x05\x01\x09\x01\x01\x10\x00\x00\x00\x00"), 0, 12)
	f.Add([]byte{}, -1, 1<<40+1)
	f.Fuzz(func(t *testing.T, b []byte, in int, budget int) {
		l := fromBytes(b)
		checkSort(t, l, plainSort(l))
		checkCost(t, l, plainCost(l, isAny), plainCost(l, isPinned))
		checkPlain(t, l, in, budget)
		checkPlain(t, l, in%64, budget%512)
	})
}

// P3: no call changes a list, or its spare room, that it is handed; the same comes of the same, whatever was asked ahead of it.
func TestListStays(t *testing.T) {
	for _, whole := range lists() {
		before := slices.Clone(whole)
		for n := range len(whole) + 1 {
			l := whole[:n]
			all, pinned := Cost(l)
			sorted := Sort(l)
			goes, is := Victims(l, 1, pinned+1)
			Victims(l, 1, pinned)
			Victims(l, -1, pinned)
			if !slices.Equal(whole, before) {
				t.Fatalf("the list, or its spare room, has changed: %v", whole)
			}
			checkCost(t, l, all, pinned)
			checkSort(t, l, sorted)
			checkVictims(t, l, 1, pinned+1, goes, is)
		}
	}
}

// P3: what comes out is new memory, its spare room too: to change it changes neither the list, nor another answer.
func TestNewMemory(t *testing.T) {
	for _, n := range []int{1, 2, 5, 13, 60} {
		whole := append(row(n), row(8)...)
		l := whole[:n]
		inOrder := Sort(l)
		for _, l := range [][]api.Item{l, inOrder} { // what is in order already is copied, too
			before := slices.Clone(l)
			sorted, kept := Sort(l), Sort(l)
			goes, _ := Victims(l, 500, 500+plainCost(l, isPinned))
			keptGoes, _ := Victims(l, 500, 500+plainCost(l, isPinned))
			wantGoes, _ := plainVictims(l, 500, 500+plainCost(l, isPinned))
			clear(sorted[:cap(sorted)])
			clear(goes[:cap(goes)])
			if !slices.Equal(l, before) || !slices.Equal(kept, plainSort(l)) || !slices.Equal(keptGoes, wantGoes) {
				t.Errorf("%d items: something else has changed", n)
			}
			clear(l)
			if want := plainSort(before); !slices.Equal(kept, want) {
				t.Errorf("%d items: what came out has changed with the list: %v", n, kept)
			}
			copy(l, before)
		}
		if !slices.Equal(whole, append(row(n), row(8)...)) {
			t.Errorf("%d items: the spare room has changed", n)
		}
	}
}

// Ways: those that may go are told by an iterator, as few as are asked for, and the same ones each time.
func TestIterator(t *testing.T) {
	l := mixed(row(13))
	want := Sort(l)
	turn := inTurn(l)
	for most := range len(want) + 1 {
		var got []api.Item
		for x := range turn {
			if len(got) == most {
				break
			}
			got = append(got, x)
		}
		if !slices.Equal(got, want[:most]) {
			t.Errorf("%d: %v", most, got)
		}
	}
	if got := slices.Collect(inTurn(nil)); len(got) != 0 {
		t.Error(got)
	}
}
