package tests

import (
	"math"
	"slices"
	"testing"

	"loop.example/g00486/impl"
)

// setLists holds every edge of chapter 3, each list in the order that makes it one.
func setLists() [][]int {
	reversed := edgeNums()
	slices.Reverse(reversed)
	return [][]int{
		nil, {}, {0}, {1}, {-1}, {math.MinInt}, {math.MaxInt},
		{7, 7}, {7, 7, 7, 7, 7, 7, 7}, {-3, -3, -3}, {0, 0}, {math.MinInt, math.MinInt}, {math.MaxInt, math.MaxInt, math.MaxInt},
		{1, 2, 3}, {3, 2, 1}, {2, 3, 1}, {1, 3, 5, 7}, {2, 4, 6, 8}, {4, 1, 4, 2, 1, 3, 4}, {1, 1, 2, 2, 3, 3}, {1, 2, 1, 2, 1},
		{-1, -2, -3}, {-3, -1, 0, 1, -1, -3}, {math.MaxInt, math.MinInt}, {math.MinInt, 0, math.MaxInt}, {math.MaxInt, 0, math.MinInt, 0, math.MaxInt},
		edgeNums(), reversed, append(edgeNums(), reversed...), numsOf(40), numsOf(255),
	}
}

func timesIn(l []int, n int) int {
	times := 0
	for _, m := range l {
		if m == n {
			times++
		}
	}
	return times
}

// setWhere counts the numbers below each one instead of sorting, so that it
// goes another way than the program.
func setWhere(l []int, keep func(n int) bool) []int {
	there := map[int]bool{}
	for _, n := range l {
		if keep(n) {
			there[n] = true
		}
	}
	out := make([]int, len(there))
	for n := range there {
		below := 0
		for m := range there {
			if m < n {
				below++
			}
		}
		out[below] = n
	}
	return out
}

func setAll(l []int) []int {
	return setWhere(l, func(int) bool { return true })
}

func wantSet(t *testing.T, name string, got []int, want []int, args ...any) {
	t.Helper()
	if !slices.Equal(got, want) {
		t.Errorf("%s of %v is %v, want %v", name, args, got, want)
	}
}

func wantIs(t *testing.T, name string, got bool, want bool, args ...any) {
	t.Helper()
	if got != want {
		t.Errorf("%s of %v is %v, want %v", name, args, got, want)
	}
}

func TestSetOfTable(t *testing.T) {
	for _, x := range [][2][]int{
		{nil, nil}, {{}, nil}, {{5}, {5}}, {{0}, {0}}, {{5, 5, 5, 5}, {5}},
		{{1, 2, 3}, {1, 2, 3}}, {{3, 2, 1}, {1, 2, 3}}, {{2, 3, 1, 3, 2}, {1, 2, 3}}, {{1, 2, 1}, {1, 2}},
		{{0, -1, 1, -2, 2, -1}, {-2, -1, 0, 1, 2}}, {{10, 9, 100, -10}, {-10, 9, 10, 100}},
		{{math.MaxInt, 0, math.MinInt, math.MaxInt}, {math.MinInt, 0, math.MaxInt}},
		{{maxNum + 1, maxNum, -maxNum - 1, -maxNum}, {-maxNum - 1, -maxNum, maxNum, maxNum + 1}},
	} {
		wantSet(t, "SetOf", impl.SetOf(x[0]), x[1], x[0])
	}
}

func TestSetHasWhatTheListHas(t *testing.T) {
	for _, l := range setLists() {
		got := impl.SetOf(l)
		wantSet(t, "SetOf", got, setAll(l), l)
		for i := range got {
			if i > 0 && got[i-1] >= got[i] {
				t.Errorf("SetOf of %v is %v, which does not ascend", l, got)
			}
		}
		for _, n := range edgeNums() {
			if (timesIn(got, n) == 1) != (timesIn(l, n) > 0) {
				t.Errorf("SetOf of %v has %d %d times", l, n, timesIn(got, n))
			}
		}
		wantSet(t, "SetOf of SetOf", impl.SetOf(got), got, l)
	}
}

func TestSetOfAllSmallLists(t *testing.T) {
	for code := range 4 * 4 * 4 * 4 * 4 {
		l := []int{code%4 - 2, code/4%4 - 2, code/16%4 - 2, code/64%4 - 2, code/256 - 2}
		for size := range len(l) + 1 {
			wantSet(t, "SetOf", impl.SetOf(l[:size]), setAll(l[:size]), l[:size])
		}
	}
}

func TestHas(t *testing.T) {
	for _, l := range setLists() {
		for _, n := range append(edgeNums(), 4, 5, 6) {
			wantIs(t, "Has", impl.Has(l, n), timesIn(l, n) > 0, l, n)
		}
	}
	for _, n := range edgeNums() {
		wantIs(t, "Has", impl.Has(nil, n), false, "nil", n)
		wantIs(t, "Has", impl.Has([]int{}, n), false, "nothing", n)
		wantIs(t, "Has", impl.Has([]int{n}, n), true, n, n)
		wantIs(t, "Has", impl.Has([]int{n, n, n}, n), true, "three times", n)
	}
	wantIs(t, "Has", impl.Has([]int{9, 1, 5}, 9), true, "the first", 9)
	wantIs(t, "Has", impl.Has([]int{5, 9, 1}, 1), true, "the last", 1)
}

func TestWithAndWithoutTable(t *testing.T) {
	for _, x := range []struct {
		l             []int
		n             int
		with, without []int
	}{
		{nil, 4, []int{4}, nil}, {[]int{}, 0, []int{0}, nil}, {[]int{4}, 4, []int{4}, nil}, {[]int{4, 4, 4}, 4, []int{4}, nil},
		{[]int{4}, 5, []int{4, 5}, []int{4}}, {[]int{4}, 3, []int{3, 4}, []int{4}},
		{[]int{3, 1, 3, 2}, 3, []int{1, 2, 3}, []int{1, 2}}, {[]int{3, 1, 3, 2}, 1, []int{1, 2, 3}, []int{2, 3}},
		{[]int{3, 1, 3, 2}, 2, []int{1, 2, 3}, []int{1, 3}}, {[]int{3, 1, 3}, 2, []int{1, 2, 3}, []int{1, 3}},
		{[]int{3, 1, 3}, -2, []int{-2, 1, 3}, []int{1, 3}}, {[]int{-3, -1}, -1, []int{-3, -1}, []int{-3}},
		{[]int{0}, math.MinInt, []int{math.MinInt, 0}, []int{0}}, {[]int{0}, math.MaxInt, []int{0, math.MaxInt}, []int{0}},
		{[]int{math.MaxInt, math.MinInt}, math.MinInt, []int{math.MinInt, math.MaxInt}, []int{math.MaxInt}},
		{[]int{math.MaxInt, math.MinInt}, math.MaxInt, []int{math.MinInt, math.MaxInt}, []int{math.MinInt}},
	} {
		wantSet(t, "With", impl.With(x.l, x.n), x.with, x.l, x.n)
		wantSet(t, "Without", impl.Without(x.l, x.n), x.without, x.l, x.n)
	}
}

func TestWithAndWithout(t *testing.T) {
	for _, l := range setLists() {
		for _, n := range append(edgeNums(), 4, 5, 6) {
			with, without := impl.With(l, n), impl.Without(l, n)
			wantSet(t, "With", with, setAll(append(slices.Clone(l), n)), l, n)
			wantSet(t, "Without", without, setWhere(l, func(m int) bool { return m != n }), l, n)
			wantSet(t, "With of With", impl.With(with, n), with, l, n)
			wantSet(t, "Without of Without", impl.Without(without, n), without, l, n)
			wantSet(t, "Without of With", impl.Without(with, n), without, l, n)
			wantSet(t, "With of Without", impl.With(without, n), with, l, n)
		}
	}
}

func TestTwoSetsTable(t *testing.T) {
	for _, x := range []struct{ a, b, union, meet, rest []int }{
		{nil, nil, nil, nil, nil}, {nil, []int{}, nil, nil, nil},
		{[]int{2, 1, 2}, nil, []int{1, 2}, nil, []int{1, 2}}, {nil, []int{2, 1, 2}, []int{1, 2}, nil, nil},
		{[]int{1}, []int{1}, []int{1}, []int{1}, nil}, {[]int{1, 1}, []int{1, 1, 1}, []int{1}, []int{1}, nil},
		{[]int{3, 1, 3, 2}, []int{5, 3, 1}, []int{1, 2, 3, 5}, []int{1, 3}, []int{2}},
		{[]int{5, 3, 1}, []int{3, 1, 3, 2}, []int{1, 2, 3, 5}, []int{1, 3}, []int{5}},
		{[]int{1, 3, 5}, []int{6, 4, 2}, []int{1, 2, 3, 4, 5, 6}, nil, []int{1, 3, 5}},
		{[]int{9, 8, 9, 8}, []int{8, 8}, []int{8, 9}, []int{8}, []int{9}},
		{[]int{math.MaxInt, -1, math.MinInt}, []int{math.MinInt, 0, math.MaxInt}, []int{math.MinInt, -1, 0, math.MaxInt}, []int{math.MinInt, math.MaxInt}, []int{-1}},
	} {
		wantSet(t, "Union", impl.Union(x.a, x.b), x.union, x.a, x.b)
		wantSet(t, "Meet", impl.Meet(x.a, x.b), x.meet, x.a, x.b)
		wantSet(t, "Rest", impl.Rest(x.a, x.b), x.rest, x.a, x.b)
	}
}

func TestTwoSets(t *testing.T) {
	for _, a := range setLists() {
		for _, b := range setLists() {
			wantTwoSets(t, a, b)
		}
		wantSet(t, "Union with itself", impl.Union(a, a), setAll(a), a)
		wantSet(t, "Meet with itself", impl.Meet(a, a), setAll(a), a)
		wantSet(t, "Rest of itself", impl.Rest(a, a), nil, a)
		wantIs(t, "Within itself", impl.Within(a, a), true, a)
	}
}

func wantTwoSets(t *testing.T, a []int, b []int) {
	t.Helper()
	inB := func(n int) bool { return timesIn(b, n) > 0 }
	rest := setWhere(a, func(n int) bool { return !inB(n) })
	wantSet(t, "Union", impl.Union(a, b), setAll(slices.Concat(a, b)), a, b)
	wantSet(t, "Meet", impl.Meet(a, b), setWhere(a, inB), a, b)
	wantSet(t, "Rest", impl.Rest(a, b), rest, a, b)
	wantIs(t, "Within", impl.Within(a, b), len(rest) == 0, a, b)
}

func TestTwoSetsOfAllSmallLists(t *testing.T) {
	for code := range 3 * 3 * 3 * 3 * 3 * 3 {
		l := []int{code % 3, code / 3 % 3, code / 9 % 3, code / 27 % 3, code / 81 % 3, code / 243}
		for size := range len(l) + 1 {
			wantTwoSets(t, l[:size], l[size:])
		}
	}
}

func TestWithinTable(t *testing.T) {
	for _, x := range []struct {
		a, b []int
		want bool
	}{
		{nil, nil, true}, {[]int{}, nil, true}, {nil, []int{1}, true}, {[]int{}, []int{1, 1}, true}, {[]int{1}, nil, false}, {[]int{0}, []int{}, false},
		{[]int{1}, []int{1}, true}, {[]int{1, 1, 1}, []int{1}, true}, {[]int{1}, []int{1, 1, 1}, true}, {[]int{2, 2}, []int{1, 1}, false},
		{[]int{1, 2}, []int{2, 1}, true}, {[]int{1, 2}, []int{2}, false}, {[]int{2, 1}, []int{2}, false}, {[]int{2}, []int{3, 2, 1}, true},
		{[]int{1, 2, 3}, []int{3, 3, 2, 2}, false}, {[]int{2, 2, 3, 3}, []int{3, 2, 1}, true}, {[]int{0, 0}, []int{1, -1}, false},
		{[]int{math.MaxInt, math.MinInt}, []int{math.MinInt, math.MaxInt}, true}, {[]int{math.MinInt}, []int{math.MaxInt}, false},
	} {
		wantIs(t, "Within", impl.Within(x.a, x.b), x.want, x.a, x.b)
	}
}

func lastOf(l []int) int {
	if len(l) == 0 {
		return 7
	}
	return l[len(l)-1]
}

// setCalls holds each call that answers a list, with both lists in its reach.
func setCalls() map[string]func(a []int, b []int) []int {
	return map[string]func(a []int, b []int) []int{
		"SetOf":           func(a []int, b []int) []int { return impl.SetOf(a) },
		"With one there":  func(a []int, b []int) []int { return impl.With(a, lastOf(a)) },
		"With another":    func(a []int, b []int) []int { return impl.With(a, 55) },
		"Without one":     func(a []int, b []int) []int { return impl.Without(a, lastOf(a)) },
		"Without another": func(a []int, b []int) []int { return impl.Without(a, 55) },
		"Union":           impl.Union,
		"Meet":            impl.Meet,
		"Rest":            impl.Rest,
	}
}

// roomy holds l with room behind it, which has numbers that would show.
func roomy(l []int) []int {
	room := append(slices.Clone(l), 77, -77, 1, 77, 2, 3, math.MinInt, 0)
	return room[:len(l)]
}

func flip(l []int) {
	for i := range l {
		l[i] = ^l[i]
	}
}

func TestSetsShareNoMemory(t *testing.T) {
	for name, call := range setCalls() {
		for _, l := range setLists() {
			for _, other := range [][]int{nil, {}, {7}, {3, 1, 3}, l, setAll(l)} {
				wantListApart(t, name, call, roomy(l), roomy(other))
				wantListApart(t, name, call, roomy(setAll(l)), roomy(other))
			}
		}
	}
}

// wantListApart holds an answer against the memory of both lists, and of the
// spare room behind them.
func wantListApart(t *testing.T, name string, call func(a []int, b []int) []int, a []int, b []int) {
	t.Helper()
	roomA, roomB := a[:cap(a)], b[:cap(b)]
	beforeA, beforeB := slices.Clone(roomA), slices.Clone(roomB)
	got := call(a, b)
	want := slices.Clone(got)
	flip(got[:cap(got)])
	wantSet(t, name+" leaves its first list, which", roomA, beforeA, a, b)
	wantSet(t, name+" leaves its second list, which", roomB, beforeB, a, b)
	got = call(a, b)
	flip(roomA)
	flip(roomB)
	wantSet(t, name+" with its lists written over", got, want, beforeA[:len(a)], beforeB[:len(b)])
}

func TestSetsOfListsInOneRoom(t *testing.T) {
	room := []int{4, 2, 4, 1, 3, 2, 9}
	before := slices.Clone(room)
	a, b := room[:3], room[2:6]
	wantSet(t, "Union", impl.Union(a, b), []int{1, 2, 3, 4}, a, b)
	wantSet(t, "Meet", impl.Meet(a, b), []int{2, 4}, a, b)
	wantSet(t, "Rest", impl.Rest(b, a), []int{1, 3}, b, a)
	wantSet(t, "With", impl.With(a, 1), []int{1, 2, 4}, a, 1)
	wantIs(t, "Within", impl.Within(room[:2], b), true, room[:2], b)
	wantSet(t, "the room", room, before)
}

func TestAskingLeavesTheLists(t *testing.T) {
	for _, l := range setLists() {
		a, b := roomy(l), roomy([]int{3, 1, 3, math.MinInt})
		beforeA, beforeB := slices.Clone(a[:cap(a)]), slices.Clone(b[:cap(b)])
		for _, n := range []int{77, -77, 0, 3, math.MinInt} {
			wantIs(t, "Has, with room behind", impl.Has(a, n), timesIn(l, n) > 0, l, n)
			wantIs(t, "Within, with room behind", impl.Within([]int{n}, a), timesIn(l, n) > 0, n, l)
		}
		impl.Within(a, b)
		impl.Within(b, a)
		wantSet(t, "what was asked for", a[:cap(a)], beforeA, l)
		wantSet(t, "what was asked in", b[:cap(b)], beforeB, l)
	}
}

func TestSetsOfManyNumbers(t *testing.T) {
	l, want := make([]int, 20000), make([]int, 5000)
	for i := range l {
		l[i] = (i*7919)%5000 - 2500
	}
	for i := range want {
		want[i] = i - 2500
	}
	if !slices.Equal(impl.SetOf(l), want) || !slices.Equal(impl.Union(l, want), want) || !slices.Equal(impl.Meet(want, l), want) {
		t.Error("of many numbers, each is not there once")
	}
	if len(impl.Rest(l, want)) != 0 || !impl.Within(l, want) || impl.Within(append(l, 2500), want) {
		t.Error("of many numbers, not all are there")
	}
}
