package tests

import (
	"math"
	"math/big"
	"slices"
	"testing"

	"loop.example/g00486/impl"
)

// chosenEvent is near what chosenEffect makes, of the class 0 too.
func chosenEvent() impl.Event {
	return impl.Event{Kind: impl.EvHurt, Src: 31, Side: 1, N: 4}
}

// chosenEffect fits chosenEvent in each right state of two sides, where its Id and its Class are right.
func chosenEffect(id int, class int) impl.Effect {
	return impl.Effect{Id: id, Side: 1, Src: 31, Class: class, Pat: impl.Pat{Kind: impl.EvHurt}, Act: impl.Act{Kind: impl.AcHalf, Side: -1}, Until: -1, Left: -1}
}

func chosenEffects(ids []int, classes ...int) []impl.Effect {
	var l []impl.Effect
	for i, id := range ids {
		l = append(l, chosenEffect(id, classes[i%len(classes)]))
	}
	return l
}

// unfit are like e, but each has a reason of its own not to fit chosenEvent at the time 5 on the turn of side 0.
func unfit(e impl.Effect) []impl.Effect {
	far := withEffPart(withEffPart(e, effClass, 0), effSrc, 32)
	return []impl.Effect{
		withEffPart(e, effLeft, 0), withEffPart(e, effUntil, 4), far, withEffPart(e, effClass, 5), withEffPart(e, effClass, -1), withEffPart(e, effSide, 2), withEffPart(e, effLeft, -2),
		withGuard(e, impl.Guard{Kind: impl.GdTurn}), withGuard(e, impl.Guard{Kind: impl.GdNone, N: 1}), withAct(e, impl.Act{}), withAct(e, impl.Act{Kind: impl.AcZone, Side: -1, Zone: 1}),
		withPat(e, impl.Pat{Kind: impl.EvHurt, Who: impl.WhoOther}), withPat(e, impl.Pat{Kind: impl.EvHurt, Least: 5}), withPat(e, impl.Pat{Kind: impl.EvLose}), withPat(e, impl.Pat{}),
	}
}

func chosenState() impl.State {
	s := stateOf(2)
	s.Active, s.Clock = 0, 5
	return s
}

// usedLists are about the Ids of a list: none of them, one, one twice, all, and others.
func usedLists(ids []int) [][]int {
	back := slices.Clone(ids)
	slices.Reverse(back)
	l := [][]int{nil, {}, {0}, {-1}, {100}, {0, 77, -5, math.MaxInt, math.MinInt}, ids, back, slices.Concat(ids, ids), slices.Concat([]int{0, 77}, ids)}
	for at, id := range ids {
		l = append(l, []int{id}, []int{id, id}, []int{77, id}, []int{id, -1}, slices.Concat(ids[:at], ids[at+1:]), []int{-id}, []int{id + 256}, []int{id + 4294967296})
	}
	return l
}

// openAs goes by the document's words, without the program's own Fits.
func openAs(s impl.State, l []impl.Effect, e impl.Event, used []int) []impl.Effect {
	var fit []impl.Effect
	for _, x := range l {
		if !slices.Contains(used, x.Id) && fitsAsSaid(s, x, e) {
			fit = append(fit, x)
		}
	}
	return fit
}

func optionsAs(s impl.State, l []impl.Effect, e impl.Event, used []int) []impl.Effect {
	fit := openAs(s, l, e, used)
	for class := range 5 {
		var of []impl.Effect
		for _, x := range fit {
			if x.Class == class {
				of = append(of, x)
			}
		}
		if len(of) > 0 {
			return of
		}
	}
	return nil
}

// pickAs works without a width that a sum could pass.
func pickAs(cs []int, n int) (int, []int) {
	if n < 2 {
		return 0, cs
	}
	if len(cs) == 0 {
		return 0, nil
	}
	over := new(big.Int).Mod(big.NewInt(int64(cs[0])), big.NewInt(int64(n)))
	return int(over.Int64()), cs[1:]
}

func wantOpen(t *testing.T, s impl.State, l []impl.Effect, e impl.Event, used []int, want []int) {
	t.Helper()
	wantSet(t, "Open", impl.Open(s, l, e, used), want, s, l, e, used)
}

func wantOptions(t *testing.T, s impl.State, l []impl.Effect, e impl.Event, used []int, want []int) {
	t.Helper()
	wantSet(t, "Options", impl.Options(s, l, e, used), want, s, l, e, used)
}

// wantChosen holds both against the document's words.
func wantChosen(t *testing.T, s impl.State, l []impl.Effect, e impl.Event, used []int) {
	t.Helper()
	wantOpen(t, s, l, e, used, effectIds(openAs(s, l, e, used)))
	wantOptions(t, s, l, e, used, effectIds(optionsAs(s, l, e, used)))
}

func wantPick(t *testing.T, cs []int, n int, which int, left []int) {
	t.Helper()
	got, rest := impl.Pick(cs, n)
	wantNumIs(t, "what Pick chooses", got, which, cs, n)
	wantSet(t, "what Pick leaves", rest, left, cs, n)
}

func wantChoices(t *testing.T, l []int, n int, want []int) {
	t.Helper()
	wantSet(t, "ChoicesOf", impl.ChoicesOf(l, n), want, l, n)
}

func TestOpenTable(t *testing.T) {
	s, e := chosenState(), chosenEvent()
	ids := []int{10, 20, 30, 40, 50}
	l := chosenEffects(ids, 3, 1, 4, 1, 2)
	for _, x := range []struct{ used, want []int }{
		{nil, ids}, {[]int{}, ids}, {ids, nil}, {[]int{10}, ids[1:]}, {[]int{50}, ids[:4]}, {[]int{30, 30}, []int{10, 20, 40, 50}}, {[]int{50, 10}, []int{20, 30, 40}},
		{[]int{0, 11, -10, 100}, ids}, {[]int{11, 20}, []int{10, 30, 40, 50}}, {[]int{50, 40, 30, 20}, []int{10}}, {[]int{1, 2, 3, 4, 5}, ids}, {[]int{0, 1, 2, 3, 4}, ids},
	} {
		wantOpen(t, s, l, e, x.used, x.want)
	}
	wantOpen(t, s, nil, e, nil, nil)
	wantOpen(t, s, []impl.Effect{}, e, []int{}, nil)
	wantOpen(t, s, nil, e, []int{1, 2}, nil)
	wantOpen(t, s, chosenEffects([]int{7}, 0), e, nil, []int{7})
	wantOpen(t, s, chosenEffects([]int{7}, 0), e, []int{7}, nil)
	wantOpen(t, s, chosenEffects([]int{7}, 0), e, []int{8}, []int{7})
}

// Each of the list fits or not, in all ways, and each is used or not.
func TestOpenByWhoFits(t *testing.T) {
	s, e := chosenState(), chosenEvent()
	for _, ids := range [][]int{{}, {7}, {1, 99}, {10, 20, 30, 40, 50}} {
		for _, classes := range [][]int{{3}, {1, 3, 2, 0, 4}} {
			for fits := range 1 << len(ids) {
				for reason := range unfit(impl.Effect{}) {
					l, want := chosenEffects(ids, classes...), []int{}
					for at, id := range ids {
						if fits>>at%2 == 1 {
							want = append(want, id)
						} else {
							l[at] = unfit(l[at])[reason]
						}
					}
					wantOpen(t, s, l, e, nil, want)
					for _, used := range usedLists(ids) {
						wantOpen(t, s, l, e, used, slices.DeleteFunc(slices.Clone(want), func(id int) bool { return slices.Contains(used, id) }))
					}
				}
			}
		}
	}
}

// Whatever the order of the Ids, that of the list is kept.
func TestOpenKeepsTheOrder(t *testing.T) {
	s, e := chosenState(), chosenEvent()
	for _, ids := range slices.Concat(idsOutOfOrder(), idsTwice(), tooManyIds()) {
		for _, classes := range [][]int{{2}, {4, 3, 2, 1, 0}, {0, 1, 2, 3, 4}, {3, 1}} {
			l := chosenEffects(ids, classes...)
			wantOpen(t, s, l, e, nil, ids)
			wantOpen(t, s, l, e, []int{0, 100}, ids)
			for _, id := range ids[:2] {
				wantOpen(t, s, l, e, []int{id}, slices.DeleteFunc(slices.Clone(ids), func(other int) bool { return other == id }))
			}
			wantOpen(t, s, l, e, ids, nil)
		}
	}
}

// Of an Id that is there twice each is asked for itself, but for whether it was used.
func TestChoicesOfIdsThatAreThereTwice(t *testing.T) {
	s, e := chosenState(), chosenEvent()
	first, second, other := chosenEffect(5, 3), chosenEffect(5, 1), chosenEffect(8, 2)
	for _, x := range []struct {
		l             []impl.Effect
		used          []int
		open, options []int
	}{
		{[]impl.Effect{first, second}, nil, []int{5, 5}, []int{5}}, {[]impl.Effect{second, first}, nil, []int{5, 5}, []int{5}}, {[]impl.Effect{first, first}, nil, []int{5, 5}, []int{5, 5}},
		{[]impl.Effect{first, other, second}, nil, []int{5, 8, 5}, []int{5}}, {[]impl.Effect{first, other, second}, []int{5}, []int{8}, []int{8}}, {[]impl.Effect{first, other, second}, []int{8}, []int{5, 5}, []int{5}},
		{[]impl.Effect{first, other, unfit(second)[0]}, nil, []int{5, 8}, []int{8}}, {[]impl.Effect{unfit(first)[0], other, second}, nil, []int{8, 5}, []int{5}}, {[]impl.Effect{unfit(second)[0], other, first}, nil, []int{8, 5}, []int{8}},
		{[]impl.Effect{second, other, second, first}, nil, []int{5, 8, 5, 5}, []int{5, 5}}, {[]impl.Effect{other, first, other, first}, nil, []int{8, 5, 8, 5}, []int{8, 8}}, {[]impl.Effect{first, second}, []int{5, 5}, nil, nil},
	} {
		wantOpen(t, s, x.l, e, x.used, x.open)
		wantOptions(t, s, x.l, e, x.used, x.options)
	}
}

func TestOptionsTable(t *testing.T) {
	s, e := chosenState(), chosenEvent()
	ids := []int{10, 20, 30, 40, 50}
	for _, x := range []struct{ classes, used, want []int }{
		{[]int{0, 1, 2, 3, 4}, nil, []int{10}}, {[]int{1, 0, 2, 3, 4}, nil, []int{20}}, {[]int{4, 3, 0, 2, 1}, nil, []int{30}}, {[]int{4, 3, 2, 0, 1}, nil, []int{40}}, {[]int{4, 3, 2, 1, 0}, nil, []int{50}},
		{[]int{3, 3, 3, 3, 3}, nil, ids}, {[]int{0, 0, 0, 0, 0}, nil, ids}, {[]int{4, 4, 4, 4, 4}, nil, ids}, {[]int{2, 3, 2, 4, 2}, nil, []int{10, 30, 50}}, {[]int{4, 1, 1, 4, 4}, nil, []int{20, 30}},
		{[]int{4, 4, 4, 3, 3}, nil, []int{40, 50}}, {[]int{1, 1, 4, 4, 4}, nil, []int{10, 20}}, {[]int{1, 2, 3, 4, 1}, nil, []int{10, 50}},
		{[]int{0, 1, 2, 3, 4}, []int{10}, []int{20}}, {[]int{0, 1, 2, 3, 4}, []int{20}, []int{10}}, {[]int{0, 1, 2, 3, 4}, []int{30, 10, 20}, []int{40}}, {[]int{0, 1, 2, 3, 4}, []int{40, 10, 20, 30}, []int{50}},
		{[]int{0, 1, 2, 3, 4}, ids, nil}, {[]int{2, 2, 3, 2, 3}, []int{10}, []int{20, 40}}, {[]int{2, 2, 3, 2, 3}, []int{10, 20, 40}, []int{30, 50}}, {[]int{2, 2, 3, 2, 3}, []int{10, 10, 77}, []int{20, 40}},
		{[]int{-1, 3, 2, 4, 2}, nil, []int{30, 50}}, {[]int{3, math.MinInt, 3, -maxNum, 4}, nil, []int{10, 30}}, {[]int{-1, -1, -1, -1, -1}, nil, nil}, {[]int{5, 6, 256, math.MaxInt, 4}, nil, []int{50}}, {[]int{-1, 0, -2, 0, 1}, []int{20}, []int{40}},
	} {
		wantOptions(t, s, chosenEffects(ids, x.classes...), e, x.used, x.want)
	}
	wantOptions(t, s, nil, e, nil, nil)
	wantOptions(t, s, []impl.Effect{}, e, []int{}, nil)
	wantOptions(t, s, nil, e, []int{1}, nil)
	wantOptions(t, s, chosenEffects([]int{7}, 4), e, nil, []int{7})
	wantOptions(t, s, chosenEffects([]int{7}, 4), e, []int{7}, nil)
}

// The least Class is held by one that was used, or does not fit: it does not count then.
func TestOptionsLeaveOutWhoDoesNotCount(t *testing.T) {
	s, e := chosenState(), chosenEvent()
	ids := []int{10, 20, 30, 40, 50}
	for at, id := range ids {
		for _, class := range []int{0, 1} {
			l := chosenEffects(ids, 3)
			l[at].Class, l[(at+2)%5].Class, l[(at+4)%5].Class = class, 2, 2
			next := []int{ids[(at+2)%5], ids[(at+4)%5]}
			slices.Sort(next)
			wantOptions(t, s, l, e, nil, []int{id})
			wantOptions(t, s, l, e, []int{id}, next)
			for _, miss := range unfit(l[at]) {
				other := slices.Clone(l)
				other[at] = miss
				wantOptions(t, s, other, e, nil, next)
				wantOptions(t, s, other, e, next, slices.DeleteFunc(slices.Clone(ids), func(n int) bool { return n == id || slices.Contains(next, n) }))
			}
		}
	}
}

// One of the class 0 is there for what its piece does, or what happens to its piece, alone.
func TestOptionsOfTheClassOfPieces(t *testing.T) {
	s := chosenState()
	s.Ps = []impl.Piece{{Id: 32, Side: 1, Zone: impl.ZnField}}
	l := chosenEffects([]int{1, 2, 3, 4}, 0, 2, 0, 2)
	l[2].Src = 32
	for _, x := range []struct {
		src, piece int
		want       []int
	}{
		{31, 0, []int{1}}, {32, 0, []int{3}}, {33, 0, []int{2, 4}}, {31, 32, []int{1, 3}}, {32, 32, []int{3}}, {7, 32, []int{3}},
	} {
		e := impl.Event{Kind: impl.EvHurt, Src: x.src, Piece: x.piece, Side: bitOf(x.piece == 0) - 1, N: 4}
		wantOptions(t, s, l, e, nil, x.want)
		wantOptions(t, s, l, e, []int{1, 3}, []int{2, 4})
	}
}

// Lists that are not TableOk are asked all the same.
func TestOptionsOfNoRightTables(t *testing.T) {
	s, e := chosenState(), chosenEvent()
	for _, ids := range slices.Concat(idsOutOfOrder(), idsTwice(), tooManyIds(), [][]int{{0, 5, 100}, {math.MinInt, 9, 3, math.MaxInt}, {-1, 257, 4294967297}}) {
		for _, classes := range [][]int{{2}, {4, 3, 2, 1, 0}, {0, 1, 2, 3, 4}, {3, 1}, {4, -1, 3, 5}, {2, 1, 1}} {
			l := chosenEffects(ids, classes...)
			for _, used := range usedLists(ids[:min(len(ids), 7)]) {
				wantChosen(t, s, l, e, used)
			}
		}
	}
}

// dealtTables have effects of all that there is, by any Ids and classes; those that
// fit some of patEvents in some of patStates are many among them.
func dealtTables() [][]impl.Effect {
	all, ids := fitEffects(), [][]int{{1, 2, 3, 4, 5}, {7, 20, 21, 98, 99}, {3, 1, 2}, {5, 5, 6, 6, 5}, {1, 2, 3, 4, 5, 6, 7}, {9}}
	var l [][]impl.Effect
	for from := 0; from < len(all); from += 11 {
		var table []impl.Effect
		for i, id := range ids[from%len(ids)] {
			e := withEffPart(copyEffect(all[(from+37*i)%len(all)]), effId, id)
			if i%2 == 0 {
				e.Class = []int{2, 1 + i, 3}[from%3]
				e.Pat = impl.Pat{Kind: all[from].Pat.Kind, Least: i / 4}
				e.Act, e.Guard, e.Left, e.Until = impl.Act{Kind: impl.AcStop, Side: -1}, impl.Guard{}, 1+i, -1
			}
			table = append(table, e)
		}
		l = append(l, table)
	}
	return append(append(l, nil), chosenEffects([]int{1, 2}, 0, 0))
}

func TestChoicesAsTheDocumentSays(t *testing.T) {
	open, options := map[int]int{}, map[int]int{}
	for _, l := range dealtTables() {
		for _, s := range patStates() {
			for _, e := range patEvents() {
				wantChosen(t, s, l, e, nil)
				open[len(impl.Open(s, l, e, nil))]++
				options[len(impl.Options(s, l, e, nil))]++
			}
			for i, used := range usedLists(effectIds(l)) {
				wantChosen(t, s, l, patEvents()[7*i%len(patEvents())], used)
			}
		}
	}
	wantIs(t, "whether many are open, and many are not", open[0] > 1000 && open[1] > 1000 && open[2] > 1000 && open[3] > 100 && options[2] > 100, true, open, options)
}

func TestChoicesInAllStates(t *testing.T) {
	tables := append(allTables()[:120:120], dealtTables()[:20]...)
	for i, s := range slices.Concat(rightStates(), wrongStates(), guardStates()) {
		for j, e := range append(kindEvents(), impl.Event{}, impl.Event{Kind: 1, Src: 1}) {
			l := tables[(7*i+j)%len(tables)]
			for _, used := range [][]int{nil, {1, 17}, effectIds(l[:min(len(l), 1)])} {
				wantChosen(t, s, l, e, used)
			}
		}
	}
}

func TestChoicesOfNoRightEvents(t *testing.T) {
	s, l := chosenState(), chosenEffects([]int{10, 20, 30}, 3, 0, 1)
	for kind := 1; kind <= 6; kind++ {
		l = append(l, withPat(withAct(chosenEffect(40+kind, 1), impl.Act{Kind: impl.AcStop, Side: -1}), impl.Pat{Kind: kind}))
	}
	for _, e := range wrongEvents() {
		wantOpen(t, s, l, e, nil, nil)
		wantOptions(t, s, l, e, nil, nil)
	}
}

// Promise 12, told without the models: of lists, states, things and used Ids of all kinds.
func TestWhoMayTurnAThing(t *testing.T) {
	turned, low, usedUp := 0, 0, 0
	for _, l := range append(dealtTables(), chosenEffects([]int{3, 4, 5, 6, 7}, 1, 0, 1, 2, 0), chosenEffects([]int{50, 40, 30, 20, 10}, 4, 4, 2)) {
		places := map[int][]impl.Effect{}
		for _, x := range l {
			places[x.Id] = append(places[x.Id], x)
		}
		for i, e := range append(patEvents(), chosenEvent()) {
			for _, s := range append(patStates(), chosenState()) {
				for _, used := range [][]int{nil, effectIds(l)[:i%(len(l)+1)], {100}} {
					open, options := impl.Open(s, l, e, used), impl.Options(s, l, e, used)
					least := 5
					for _, id := range open {
						wantIs(t, "whether one that is open was used", slices.Contains(used, id), false, id, used)
						fits := slices.ContainsFunc(places[id], func(x impl.Effect) bool { return impl.Fits(s, x, e) })
						wantIs(t, "whether one that is open Fits", fits, true, s, id, e)
						for _, x := range places[id] {
							if impl.Fits(s, x, e) {
								least = min(least, x.Class)
							}
						}
					}
					for _, id := range options {
						wantIs(t, "whether an option is open", slices.Contains(open, id), true, options, open)
						isLeast := slices.ContainsFunc(places[id], func(x impl.Effect) bool { return impl.Fits(s, x, e) && x.Class == least })
						wantIs(t, "whether an option is of the least class", isLeast, true, options, open, least)
					}
					wantIs(t, "whether somebody has the choice where somebody is open", len(options) > 0, len(open) > 0, options, open)
					turned, low, usedUp = turned+len(options), low+len(open)-len(options), usedUp+bitOf(len(used) > 0)
				}
			}
		}
	}
	wantIs(t, "whether many may turn something, and many are of higher classes", turned > 1000 && low > 1000 && usedUp > 1000, true, turned, low, usedUp)
}

func TestChooserTable(t *testing.T) {
	s := stateOf(3, impl.Piece{Id: 3, Owner: 0, Side: 1, Zone: 2}, impl.Piece{Id: 5, Owner: 2, Side: 0, Zone: 3}, impl.Piece{Id: 9, Owner: 2, Side: 2, Zone: 1})
	for active := range 3 {
		s.Active = active
		for _, x := range []struct {
			e    impl.Event
			want int
		}{
			{impl.Event{Kind: 1, Src: 3, Side: 0, N: 1}, 0}, {impl.Event{Kind: 1, Src: 3, Side: 1, N: 1}, 1}, {impl.Event{Kind: 1, Src: 5, Side: 2, N: 1}, 2}, {impl.Event{Kind: 3, Side: 2}, 2}, {impl.Event{Kind: 4}, 0},
			{impl.Event{Kind: 1, Src: 9, Piece: 3, Side: -1, N: 1}, 1}, {impl.Event{Kind: 1, Src: 9, Piece: 5, Side: -1, N: 1}, 0}, {impl.Event{Kind: 2, Piece: 9, Side: -1, Zone: 4}, 2}, {impl.Event{Kind: 5, Piece: 3, Side: -1, N: 1}, 1}, {impl.Event{Kind: 6, Piece: 5, Side: -1}, 0},
			{impl.Event{Kind: 1, Src: 3, Piece: 4, Side: -1, N: 1}, active}, {impl.Event{Kind: 2, Piece: 99, Side: -1, Zone: 4}, active}, {impl.Event{Kind: 3, Side: 3}, active}, {impl.Event{Kind: 3, Side: -1}, active}, {impl.Event{Side: -1}, active},
			{impl.Event{Piece: 9}, 2}, {impl.Event{Piece: 4}, active}, {impl.Event{Piece: -3, Side: 1}, active}, {impl.Event{Piece: 3, Side: 2}, 1}, {impl.Event{Kind: 77, Side: 2}, 2}, {impl.Event{}, 0}, {impl.Event{Side: math.MinInt}, active}, {impl.Event{Piece: math.MaxInt}, active},
		} {
			wantNumIs(t, "Chooser", impl.Chooser(s, x.e), x.want, x.e, active)
		}
	}
}

// A side is there in two sides or in three; without one it is whose turn it is.
func TestChooserByTheSidesThereAre(t *testing.T) {
	for sides := range 5 {
		for _, active := range []int{math.MinInt, -2, -1, 0, 1, 2, 7, math.MaxInt} {
			s := impl.State{Ss: make([]impl.Side, sides), Active: active}
			for side := -2; side <= 5; side++ {
				want := active
				if 0 <= side && side < sides {
					want = side
				}
				wantNumIs(t, "Chooser", impl.Chooser(s, impl.Event{Kind: impl.EvLose, Side: side, N: 2}), want, sides, side, active)
			}
		}
	}
}

// A piece whose side is -1 has no target; any other side that a piece has is told as it is.
func TestChooserOfPiecesOfNoRightSide(t *testing.T) {
	for _, side := range []int{math.MinInt, -maxNum, -2, -1, 0, 1, 2, 3, 7, 256, math.MaxInt} {
		for _, active := range []int{math.MinInt, -1, 0, 1, 9} {
			s := stateOf(2, impl.Piece{Id: 4, Side: side, Zone: 2}, impl.Piece{Id: 4, Side: 1, Zone: 2})
			s.Active = active
			want := side
			if side == -1 {
				want = active
			}
			wantNumIs(t, "Chooser", impl.Chooser(s, impl.Event{Kind: impl.EvPut, Piece: 4, Side: -1, N: 1}), want, side, active)
		}
	}
}

func TestChooserAsTheDocumentSays(t *testing.T) {
	target, turn := 0, 0
	for _, s := range slices.Concat(rightStates(), wrongStates(), guardStates(), patStates()) {
		for _, e := range slices.Concat(kindEvents(), patEvents()[:40], wrongEvents()[:60]) {
			want := targetOf(s, e)
			if want == -1 {
				want, turn = s.Active, turn+1
			} else {
				target++
			}
			wantNumIs(t, "Chooser", impl.Chooser(s, e), want, s, e)
		}
	}
	wantIs(t, "whether many choose for themselves, and many do not", target > 1000 && turn > 1000, true, target, turn)
}

func TestPickTable(t *testing.T) {
	for _, x := range []struct {
		cs    []int
		n     int
		which int
		left  []int
	}{
		{[]int{5, 1}, 3, 2, []int{1}}, {[]int{-1}, 3, 2, nil}, {[]int{0, 8, 9}, 3, 0, []int{8, 9}}, {[]int{2, 8}, 3, 2, []int{8}}, {[]int{3, 8}, 3, 0, []int{8}}, {[]int{4, 8}, 3, 1, []int{8}}, {[]int{300, 8}, 3, 0, []int{8}},
		{[]int{-3, 8}, 3, 0, []int{8}}, {[]int{-4, 8}, 3, 2, []int{8}}, {[]int{-2, 8}, 3, 1, []int{8}}, {[]int{-300, 8}, 3, 0, []int{8}}, {[]int{-1, -2, -3}, 2, 1, []int{-2, -3}}, {[]int{-2, -1}, 2, 0, []int{-1}}, {[]int{1}, 2, 1, nil}, {[]int{2}, 2, 0, nil},
		{nil, 2, 0, nil}, {[]int{}, 2, 0, nil}, {nil, 5, 0, nil}, {nil, math.MaxInt, 0, nil}, {nil, 1, 0, nil}, {nil, 0, 0, nil}, {[]int{}, -1, 0, nil}, {nil, math.MinInt, 0, nil},
		{[]int{5}, 1, 0, []int{5}}, {[]int{4}, 0, 0, []int{4}}, {[]int{4, 7, 4}, 1, 0, []int{4, 7, 4}}, {[]int{9, 8}, -1, 0, []int{9, 8}}, {[]int{9, 8}, -2, 0, []int{9, 8}}, {[]int{-9}, math.MinInt, 0, []int{-9}},
		{[]int{math.MaxInt, 1}, 2, 1, []int{1}}, {[]int{math.MinInt, 1}, 2, 0, []int{1}}, {[]int{math.MaxInt}, math.MaxInt, 0, nil}, {[]int{math.MaxInt - 1}, math.MaxInt, math.MaxInt - 1, nil}, {[]int{math.MinInt}, math.MaxInt, math.MaxInt - 1, nil},
		{[]int{math.MinInt + 1}, math.MaxInt, 0, nil}, {[]int{-1}, math.MaxInt, math.MaxInt - 1, nil}, {[]int{5}, math.MaxInt, 5, nil}, {[]int{math.MinInt}, 3, 1, nil}, {[]int{math.MinInt}, 5, 2, nil}, {[]int{math.MaxInt}, 5, 2, nil}, {[]int{math.MaxInt}, 10, 7, nil},
		{[]int{math.MaxInt}, math.MaxInt - 1, 1, nil}, {[]int{math.MinInt}, math.MaxInt - 1, math.MaxInt - 3, nil}, {[]int{math.MinInt, 4}, 4294967296, 0, []int{4}}, {[]int{-1, 4}, 4294967296, 4294967295, []int{4}}, {[]int{math.MinInt + 1}, 4294967296, 1, nil},
	} {
		wantPick(t, x.cs, x.n, x.which, x.left)
	}
}

func TestPickAroundEachCount(t *testing.T) {
	for n := -5; n <= 12; n++ {
		for first := -40; first <= 40; first++ {
			for _, behind := range [][]int{nil, {7}, {7, first, 7}, {0, -1}} {
				cs := append([]int{first}, behind...)
				if n < 2 {
					wantPick(t, cs, n, 0, cs)
					continue
				}
				wantPick(t, cs, n, (first+n*100)%n, behind)
			}
		}
	}
}

// It counts on from what many times n is, up and down, and never leaves 0 .. n - 1.
func TestPickAsTheDocumentSays(t *testing.T) {
	for _, n := range append(edgeNums(), 4, 5, 10, 40) {
		firsts := append(edgeNums(), n, n-1, n+1, -n, -n-1, 1-n, 7*n, 7*n-1, -7*n, -7*n-1)
		for _, first := range firsts {
			for _, behind := range [][]int{nil, {}, {first}, {3, 1, 2}} {
				cs := append([]int{first}, behind...)
				which, left := pickAs(cs, n)
				wantPick(t, cs, n, which, left)
				got, _ := impl.Pick(cs, n)
				wantIs(t, "whether it is one of them", 0 <= got && got < max(n, 1), true, cs, n, got)
			}
		}
		wantPick(t, nil, n, 0, nil)
		wantPick(t, []int{}, n, 0, nil)
	}
}

// One behind the other is used up, from the front on; those of fewer than 2 use up none.
func TestPickUpToTheLastChoice(t *testing.T) {
	cs := []int{4, -1, 7, 0, 9, -8}
	ns := []int{3, 1, 2, 0, 5, 4, -3, 2, 1, 3, 3, 2}
	for i, want := range []int{1, 0, 1, 0, 2, 0, 0, 1, 0, 1, 0, 0} {
		which, left := impl.Pick(cs, ns[i])
		wantNumIs(t, "what Pick chooses", which, want, cs, ns[i])
		wantNumIs(t, "how many choices are left", len(left), max(0, len(cs)-bitOf(ns[i] > 1)), cs, ns[i])
		cs = left
	}
}

func TestPickOfManyChoices(t *testing.T) {
	cs := make([]int, 5000)
	for i := range cs {
		cs[i] = i*i - 2000
	}
	for at := 0; at < len(cs); at += 97 {
		which, left := pickAs(cs[at:], 7)
		wantPick(t, cs[at:], 7, which, left)
		wantPick(t, cs[at:], 1, 0, cs[at:])
	}
}

func TestChoicesOf(t *testing.T) {
	for _, l := range [][]int{nil, {}, {5}, {3, 1}, {1, 1, 1}, {4, -1, 0, math.MaxInt, math.MinInt}, {9, 8, 7, 6, 5, 4, 3, 2, 1}} {
		for n := range len(l) + 1 {
			wantChoices(t, l, n, l[:n])
		}
		for _, n := range []int{len(l) + 1, len(l) + 2, maxNum, 4294967296, math.MaxInt} {
			wantChoices(t, l, n, l)
		}
		for _, n := range []int{-1, -2, -len(l) - 1, -maxNum, -4294967295, math.MinInt + 1, math.MinInt} {
			wantChoices(t, l, n, nil)
		}
	}
	wantChoices(t, []int{1, 2, 3}, 2, []int{1, 2})
	wantChoices(t, []int{1, 2, 3}, 1, []int{1})
	wantChoices(t, nil, 0, nil)
}

func TestChoicesOfManyNumbers(t *testing.T) {
	l := make([]int, 3000)
	for i := range l {
		l[i] = 7 * i
	}
	for _, n := range []int{0, 1, 255, 256, 257, 1024, 2999, 3000, 3001, 4096} {
		wantChoices(t, l, n, l[:min(n, 3000)])
	}
}

// choiceCalls are the calls that answer a list, of two lists of numbers.
func choiceCalls() map[string]func(a []int, b []int) []int {
	calls := map[string]func(a []int, b []int) []int{
		"Open": func(a []int, b []int) []int { return impl.Open(chosenState(), chosenEffects(b, 2), chosenEvent(), a) },
		"Options": func(a []int, b []int) []int {
			return impl.Options(chosenState(), chosenEffects(b, 1, 2), chosenEvent(), a)
		},
	}
	for _, n := range []int{math.MinInt, -1, 0, 1, 2, 3, 5, math.MaxInt} {
		calls["Pick of "+impl.NumText(n)] = func(a []int, _ []int) []int { _, left := impl.Pick(a, n); return left }
		calls["ChoicesOf "+impl.NumText(n)] = func(a []int, _ []int) []int { return impl.ChoicesOf(a, n) }
	}
	return calls
}

func TestChoicesShareNoMemory(t *testing.T) {
	for name, call := range choiceCalls() {
		for _, a := range [][]int{nil, {}, {4}, {1, 7}, {-1, 2, 3}, {9, 8, 7, 6, 5, 4}} {
			for _, b := range [][]int{nil, {4}, {1, 2, 3}, {7, 7, 50}} {
				wantListApart(t, name, call, roomy(a), roomy(b))
			}
		}
	}
}

// What lies behind a list is not looked at: neither who stands there, nor what is used or chosen.
func TestChoicesLookAtNoRoomBehind(t *testing.T) {
	s, e := chosenState(), chosenEvent()
	all := chosenEffects([]int{10, 20, 30, 40}, 3, 3, 2, 1)
	wantOpen(t, s, all[:2], e, []int{5, 20}[:1], []int{10, 20})
	wantOptions(t, s, all[:2], e, []int{10, 20}[:0], []int{10, 20})
	wantOptions(t, s, all[:3], e, []int{30}[:0], []int{30})
	wantOpen(t, s, all[:0], e, nil, nil)
	wantPick(t, []int{5, 1}[:0], 3, 0, nil)
	wantPick(t, []int{5, 1}[:1], 3, 2, nil)
	wantPick(t, []int{5, 1}[:1], 1, 0, []int{5})
	wantChoices(t, []int{5, 1, 4}[:2], 3, []int{5, 1})
	wantChoices(t, []int{5, 1, 4}[:0], 1, nil)
	room := roomyState(stateOf(2))
	room.Active = 1
	wantNumIs(t, "Chooser", impl.Chooser(room, impl.Event{Kind: impl.EvLose, Side: 2, N: 1}), 1)
	for _, base := range append(dealtTables()[:20], partsTable(1, 2, 3)) {
		for _, v := range []impl.Event{patEvents()[3], chosenEvent(), {Kind: impl.EvHurt, Src: 31, Side: 1, N: 9}} {
			wantSet(t, "Open with room behind", impl.Open(roomyState(s), roomyTable(base), v, roomy([]int{2})), effectIds(openAs(s, base, v, []int{2})), base, v)
			wantSet(t, "Options with room behind", impl.Options(roomyState(s), roomyTable(base), v, roomy([]int{2})), effectIds(optionsAs(s, base, v, []int{2})), base, v)
		}
	}
}

func TestAskingOfChoicesLeavesTheArguments(t *testing.T) {
	for i, base := range append(apartTables(), dealtTables()[:30]...) {
		for _, of := range append(kindEvents(), chosenEvent(), patEvents()[3]) {
			s, l, e, used := roomyState(fitState()), roomyTable(base), of, roomy([]int{5, i, 1})
			before, beforeS, beforeUsed := copyTable(wholeTable(l)), copyState(wholeRoom(s)), slices.Clone(used[:cap(used)])
			impl.Open(s, l, e, used)
			impl.Options(s, l, e, used)
			impl.Chooser(s, e)
			impl.Pick(used, 2)
			impl.Pick(used, i)
			impl.ChoicesOf(used, 2)
			wantTable(t, "what was asked of", wholeTable(l), before, base)
			wantState(t, "what was asked in", wholeRoom(s), beforeS)
			wantEvent(t, "what was asked for", e, of)
			wantSet(t, "what was used", used[:cap(used)], beforeUsed)
		}
	}
}

func TestChoicesAnswerTheSameAtEachCall(t *testing.T) {
	s, e := chosenState(), chosenEvent()
	for _, ids := range slices.Concat(idsTwice(), tooManyIds(), idsOutOfOrder()) {
		l := chosenEffects(ids, 3, 2, 2)
		open, options := impl.Open(s, l, e, ids[:1]), impl.Options(s, l, e, ids[:1])
		for range 10 {
			wantOpen(t, s, l, e, ids[:1], open)
			wantOptions(t, s, l, e, ids[:1], options)
			which, left := pickAs(ids, 3)
			wantPick(t, ids, 3, which, left)
			wantChoices(t, ids, 2, ids[:min(2, len(ids))])
		}
	}
}
