package tests

import (
	"math"
	"testing"

	"loop.example/g00486/impl"
)

// guardBounds has the least and the greatest N of each kind, as the document has them.
func guardBounds() [5][2]int {
	return [5][2]int{{0, 0}, {-maxNum, maxNum}, {0, 8}, {0, 0}, {0, 8}}
}

func guardIsRight(g impl.Guard) bool {
	if g.Kind < 0 || g.Kind > 4 {
		return false
	}
	bounds := guardBounds()[g.Kind]
	return bounds[0] <= g.N && g.N <= bounds[1]
}

// fieldCounts goes by the document's words, without the program's own OnField.
func fieldCounts(s impl.State, side int) (there int, bent int) {
	for _, p := range s.Ps {
		if p.Zone == 2 && p.Side == side {
			there++
			bent += bitOf(p.Bent)
		}
	}
	return there, bent
}

func guardIsSo(s impl.State, side int, g impl.Guard) bool {
	if !guardIsRight(g) || side < 0 || side >= len(s.Ss) {
		return false
	}
	there, bent := fieldCounts(s, side)
	return [5]bool{true, s.Ss[side].Life <= g.N, there >= g.N, s.Active == side, bent >= g.N}[g.Kind]
}

func asksForAsMuch(g impl.Guard, h impl.Guard) bool {
	if !guardIsRight(g) || !guardIsRight(h) {
		return false
	}
	if h.Kind == 0 {
		return true
	}
	return g.Kind == h.Kind && [5]bool{true, g.N <= h.N, g.N >= h.N, true, g.N >= h.N}[g.Kind]
}

// rightGuards has all of the kinds with few, and lives about those of stateOf and StateNew.
func rightGuards() []impl.Guard {
	l := []impl.Guard{{Kind: impl.GdNone}, {Kind: impl.GdTurn}}
	for n := range 9 {
		l = append(l, impl.Guard{Kind: impl.GdMany, N: n}, impl.Guard{Kind: impl.GdBent, N: n})
	}
	for _, n := range []int{-maxNum, -maxNum + 1, -23, -22, -21, -8, -1, 0, 1, 8, 19, 20, 21, 22, 23, 24, maxNum - 1, maxNum} {
		l = append(l, impl.Guard{Kind: impl.GdLow, N: n})
	}
	return l
}

// wrongGuards are past a bound of their kind, or of no kind.
func wrongGuards() []impl.Guard {
	var l []impl.Guard
	for kind, bounds := range guardBounds() {
		for _, n := range append(farNums(), bounds[0]-1, bounds[1]+1) {
			if g := (impl.Guard{Kind: kind, N: n}); !guardIsRight(g) {
				l = append(l, g)
			}
		}
	}
	for _, kind := range append(farNums(), -4, -3, -2, -1, 5, 6, 255, 257) {
		l = append(l, impl.Guard{Kind: kind}, impl.Guard{Kind: kind, N: 1}, impl.Guard{Kind: kind, N: -1})
	}
	return l
}

// noSides are none in a state of so many.
func noSides(sides int) []int {
	return []int{math.MinInt, math.MinInt + 1, -4294967296, -4294967295, -maxNum, -257, -2, -1, sides, sides + 1, 256, maxNum, 4294967295, 4294967296, math.MaxInt}
}

// guardStates have all numbers of pieces, on and off the field, bent or not, with each side in its turn.
func guardStates() []impl.State {
	var l []impl.State
	for _, sides := range []int{2, 3} {
		for count := range 9 {
			for turn := range 6 {
				s := stateOf(sides)
				s.Active = turn % sides
				for i := range count {
					p := impl.Piece{Id: 1 + 7*i, Owner: (i + turn) % sides, Side: (i/(1+turn) + count) % sides, Zone: 2, Bent: (i*i+turn)%4 != 1}
					if (i+2*turn)%5 == 4 {
						p = impl.Piece{Id: p.Id, Owner: p.Owner, Side: p.Owner, Zone: 1 + turn%2*2}
					}
					s.Ps = append(s.Ps, p)
				}
				l = append(l, s)
			}
		}
	}
	return l
}

// crowd is a state of three sides: side 0 has four pieces on the field, three of
// them bent; side 1 has two, both of 0, and none bent; side 2 has none there.
func crowd() impl.State {
	return stateOf(3,
		impl.Piece{Id: 2, Owner: 0, Side: 0, Zone: 2, Bent: true},
		impl.Piece{Id: 5, Owner: 1, Side: 0, Zone: 2, Bent: true},
		impl.Piece{Id: 11, Owner: 0, Side: 1, Zone: 2},
		impl.Piece{Id: 20, Owner: 0, Side: 0, Zone: 3},
		impl.Piece{Id: 31, Owner: 2, Side: 0, Zone: 2, Bent: true},
		impl.Piece{Id: 40, Owner: 2, Side: 2, Zone: 1},
		impl.Piece{Id: 77, Owner: 0, Side: 0, Zone: 2},
		impl.Piece{Id: 99, Owner: 0, Side: 1, Zone: 2})
}

func wantHolds(t *testing.T, s impl.State, side int, g impl.Guard, want bool) {
	t.Helper()
	wantIs(t, "Holds", impl.Holds(s, side, g), want, s, side, g)
}

// wantUpTo wants the kind to hold of each N up to most, and of none above.
func wantUpTo(t *testing.T, s impl.State, side int, kind int, most int) {
	t.Helper()
	for n := -1; n <= 9; n++ {
		wantHolds(t, s, side, impl.Guard{Kind: kind, N: n}, 0 <= n && n <= most)
	}
}

func TestGuardConstants(t *testing.T) {
	for i, kind := range []int{impl.GdNone, impl.GdLow, impl.GdMany, impl.GdTurn, impl.GdBent} {
		wantNumIs(t, "guard", kind, i, i)
	}
}

func TestGuardOkAtEachBound(t *testing.T) {
	nothing := map[int]bool{-1: false, 0: true, 1: false}
	pieces := map[int]bool{-1: false, 0: true, 1: true, 7: true, impl.MaxPieces: true, impl.MaxPieces + 1: false, 99: false}
	lives := map[int]bool{-maxNum - 1: false, -maxNum: true, -maxNum + 1: true, -1: true, 0: true, 1: true, 9: true, maxNum - 1: true, maxNum: true, maxNum + 1: false}
	for kind, oks := range map[int]map[int]bool{impl.GdNone: nothing, impl.GdLow: lives, impl.GdMany: pieces, impl.GdTurn: nothing, impl.GdBent: pieces} {
		for n, ok := range oks {
			wantIs(t, "GuardOk", impl.GuardOk(impl.Guard{Kind: kind, N: n}), ok, kind, n)
		}
	}
}

func TestGuardOkOfKindsThatThereAreNot(t *testing.T) {
	for _, kind := range append(farNums(), -5, -4, -3, -2, -1, 5, 6, 7, 8, 9, 255, 257, 4294967299, 4294967300) {
		for _, n := range append(edgeNums(), 8) {
			wantIs(t, "GuardOk", impl.GuardOk(impl.Guard{Kind: kind, N: n}), false, kind, n)
		}
	}
}

func TestGuardOkAtAllEdges(t *testing.T) {
	oks := map[bool]int{}
	for kind := -3; kind <= 8; kind++ {
		for _, n := range append(edgeNums(), 9, 10, -9, 256, 264) {
			g := impl.Guard{Kind: kind, N: n}
			wantIs(t, "GuardOk", impl.GuardOk(g), guardIsRight(g), g)
			oks[guardIsRight(g)]++
		}
	}
	for _, g := range rightGuards() {
		wantIs(t, "GuardOk", impl.GuardOk(g), true, g)
	}
	for _, g := range wrongGuards() {
		wantIs(t, "GuardOk", impl.GuardOk(g), false, g)
	}
	wantIs(t, "whether many are right, and many are not", oks[true] > 40 && oks[false] > 40, true, oks)
}

func TestHoldsOfNothing(t *testing.T) {
	for _, s := range append(append(guardStates(), rightStates()...), wrongStates()...) {
		for side := -2; side <= 6; side++ {
			wantHolds(t, s, side, impl.Guard{}, 0 <= side && side < len(s.Ss))
			wantHolds(t, s, side, impl.Guard{N: 1}, false)
			wantHolds(t, s, side, impl.Guard{N: -1}, false)
		}
	}
}

func TestHoldsOfLow(t *testing.T) {
	for _, sides := range []int{2, 3} {
		for side := range sides {
			for _, n := range []int{-maxNum, -maxNum + 1, -1001, -23, -2, -1, 0, 1, 2, 20, 1001, maxNum - 1, maxNum} {
				s := stateOf(sides)
				for life, want := range map[int]bool{n - 1: true, n: true, n + 1: false, -n - 1: -n-1 <= n} {
					s.Ss[side].Life = life
					wantHolds(t, s, side, impl.Guard{Kind: impl.GdLow, N: n}, want)
				}
			}
		}
	}
}

// Of each side its own life is asked for, whosever turn it is.
func TestHoldsOfLowBySide(t *testing.T) {
	for active := range 3 {
		s := stateOf(3)
		s.Active = active
		for n, want := range map[int][3]bool{-23: {}, -22: {false, true, false}, 20: {false, true, false}, 21: {true, true, false}, 22: {true, true, false}, 23: {true, true, true}, maxNum: {true, true, true}, -maxNum: {}} {
			for side := range 3 {
				wantHolds(t, s, side, impl.Guard{Kind: impl.GdLow, N: n}, want[side])
			}
		}
	}
}

// Poison, and whether it has lost, do not count as life.
func TestHoldsOfLowLooksAtLifeAlone(t *testing.T) {
	s := impl.State{Ss: []impl.Side{{Life: 5, Poison: 9, Lost: true}, {Life: 9, Poison: 5}}}
	for n := range 12 {
		wantHolds(t, s, 0, impl.Guard{Kind: impl.GdLow, N: n}, n >= 5)
		wantHolds(t, s, 1, impl.Guard{Kind: impl.GdLow, N: n}, n >= 9)
	}
}

func TestHoldsOfMany(t *testing.T) {
	s := crowd()
	for side, there := range []int{4, 2, 0} {
		wantUpTo(t, s, side, impl.GdMany, there)
	}
	for there := range 9 {
		for side := range 3 {
			for bent := range 3 {
				s := stateOf(3)
				for i := range 8 {
					has := side
					if i >= there {
						has = (side + 1) % 3
					}
					s.Ps = append(s.Ps, impl.Piece{Id: 3 + i, Owner: i % 3, Side: has, Zone: 2, Bent: i%3 < bent})
				}
				wantUpTo(t, s, side, impl.GdMany, there)
				wantUpTo(t, s, (side+1)%3, impl.GdMany, 8-there)
				wantUpTo(t, s, (side+2)%3, impl.GdMany, 0)
			}
		}
	}
}

// One piece more, which counts only where it is on the field and this side has it.
func TestHoldsOfManyByOnePiece(t *testing.T) {
	base := []impl.Piece{{Id: 1, Owner: 1, Side: 1, Zone: 2}, {Id: 2, Owner: 0, Side: 1, Zone: 2, Bent: true}}
	for owner := range 3 {
		for has := range 3 {
			for zone := 1; zone <= 4; zone++ {
				for _, bent := range []bool{false, true} {
					s := stateOf(3, append(base[:2:2], impl.Piece{Id: 3, Owner: owner, Side: has, Zone: zone, Bent: bent})...)
					counts := bitOf(zone == 2 && has == 1)
					wantUpTo(t, s, 1, impl.GdMany, 2+counts)
					wantUpTo(t, s, 1, impl.GdBent, 1+counts*bitOf(bent))
					wantNumIs(t, "BentOf", impl.BentOf(s, 1), 1+counts*bitOf(bent), s)
				}
			}
		}
	}
}

func TestHoldsOfTurn(t *testing.T) {
	for _, sides := range []int{2, 3} {
		for active := range sides {
			s := stateOf(sides, mixedPieces()...)
			s.Active = active
			for side := -1; side <= sides; side++ {
				wantHolds(t, s, side, impl.Guard{Kind: impl.GdTurn}, side == active)
				wantHolds(t, s, side, impl.Guard{Kind: impl.GdTurn, N: 1}, false)
				wantHolds(t, s, side, impl.Guard{Kind: impl.GdTurn, N: side}, side == active && side == 0)
			}
		}
	}
}

func TestHoldsOfBent(t *testing.T) {
	s := crowd()
	for side, bent := range []int{3, 0, 0} {
		wantUpTo(t, s, side, impl.GdBent, bent)
	}
	for bent := range 9 {
		for there := bent; there <= 8; there++ {
			s := stateOf(2)
			for i := range there {
				s.Ps = append(s.Ps, impl.Piece{Id: 3 + i, Owner: i % 2, Side: 1, Zone: 2, Bent: i >= there-bent})
			}
			wantUpTo(t, s, 1, impl.GdBent, bent)
			wantUpTo(t, s, 1, impl.GdMany, there)
			wantUpTo(t, s, 0, impl.GdBent, 0)
		}
	}
}

func TestHoldsOfSidesThatThereAreNot(t *testing.T) {
	for _, sides := range []int{0, 1, 2, 3, 4} {
		for _, side := range noSides(sides) {
			s := stateOf(sides)
			s.Active = side
			for i := range 8 {
				s.Ps = append(s.Ps, impl.Piece{Id: 3 + i, Side: side, Zone: 2, Bent: true})
			}
			for _, g := range rightGuards() {
				wantHolds(t, s, side, g, false)
				wantHolds(t, stateOf(sides, mixedPieces()...), side, g, false)
				wantHolds(t, impl.State{}, side, g, false)
			}
		}
	}
}

func TestHoldsAtTheFirstAndTheLastSide(t *testing.T) {
	for _, sides := range []int{1, 2, 3, 4, 5} {
		for _, side := range []int{0, sides - 1} {
			s := stateOf(sides)
			s.Active = side
			for _, g := range []impl.Guard{{}, {Kind: impl.GdLow, N: 25}, {Kind: impl.GdMany}, {Kind: impl.GdTurn}, {Kind: impl.GdBent}} {
				wantHolds(t, s, side, g, true)
			}
		}
	}
}

func TestHoldsOfNoRightGuard(t *testing.T) {
	for _, g := range wrongGuards() {
		for _, s := range append(guardStates(), wrongStates()...) {
			for side := -1; side <= 3; side++ {
				wantHolds(t, s, side, g, false)
			}
		}
	}
}

func TestBentOf(t *testing.T) {
	for _, sides := range []int{2, 3} {
		for side := range sides {
			other := (side + 1) % sides
			for bent := range 5 {
				s := stateOf(sides)
				for i := range 4 {
					s.Ps = append(s.Ps, impl.Piece{Id: 1 + 2*i, Owner: i % sides, Side: side, Zone: 2, Bent: i < bent})
					s.Ps = append(s.Ps, impl.Piece{Id: 2 + 2*i, Owner: side, Side: other, Zone: 2, Bent: i%2 == 0})
				}
				wantNumIs(t, "BentOf", impl.BentOf(s, side), bent, s, side)
				wantNumIs(t, "BentOf of the other one", impl.BentOf(s, other), 2, s, other)
			}
		}
	}
	for side, want := range []int{3, 0, 0} {
		wantNumIs(t, "BentOf", impl.BentOf(crowd(), side), want, side)
	}
}

// No right state has a bent piece off the field: it does not count all the same.
func TestBentOfPiecesElsewhere(t *testing.T) {
	for _, zone := range []int{math.MinInt, -2, -1, 0, 1, 3, 4, 5, 258, 4294967298} {
		s := stateOf(2, impl.Piece{Id: 3, Side: 1, Zone: zone, Bent: true}, impl.Piece{Id: 4, Side: 1, Zone: 2, Bent: true}, impl.Piece{Id: 5, Side: 1, Zone: 2})
		wantNumIs(t, "BentOf", impl.BentOf(s, 1), 1, zone)
		wantUpTo(t, s, 1, impl.GdBent, 1)
		wantUpTo(t, s, 1, impl.GdMany, 2)
		s.Ps = s.Ps[:1]
		wantNumIs(t, "BentOf of none on the field", impl.BentOf(s, 1), 0, zone)
	}
}

func TestBentOfSidesThatThereAreNot(t *testing.T) {
	for _, s := range append(append(rightStates(), guardStates()...), crowd(), impl.State{}) {
		for _, side := range noSides(max(2, len(s.Ss))) {
			wantNumIs(t, "BentOf", impl.BentOf(s, side), 0, s, side)
		}
	}
}

// Each piece counts as it stands, also where the state is not right: by whom it
// says that it is had, and by itself, where its Id is there twice.
func TestBentOfNoRightState(t *testing.T) {
	s := impl.State{Ps: []impl.Piece{
		{Id: 9, Side: 1, Zone: 2, Bent: true}, {Id: 9, Side: 1, Zone: 2}, {Id: 9, Side: 1, Zone: 2, Bent: true}, {Id: 3, Side: 7, Zone: 2, Bent: true},
		{Id: -4, Side: 1, Zone: 2, Bent: true}, {Id: 5, Side: 0, Zone: 2}, {Id: 5, Side: 0, Zone: 2, Bent: true}, {Id: 6, Side: -2, Zone: 2, Bent: true},
	}}
	for side, want := range map[int]int{0: 1, 1: 3, 2: 0, 7: 1, -2: 1, -1: 0, math.MinInt: 0, math.MaxInt: 0} {
		wantNumIs(t, "BentOf", impl.BentOf(s, side), want, side)
		wantHolds(t, s, side, impl.Guard{Kind: impl.GdBent, N: want}, false)
	}
	s.Ss = make([]impl.Side, 8)
	for side, want := range map[int][2]int{0: {2, 1}, 1: {4, 3}, 2: {0, 0}, 7: {1, 1}} {
		wantUpTo(t, s, side, impl.GdMany, want[0])
		wantUpTo(t, s, side, impl.GdBent, want[1])
	}
}

func TestGuardsOfMorePiecesThanThereMayBe(t *testing.T) {
	s := stateOf(2)
	for i := range 20 {
		s.Ps = append(s.Ps, impl.Piece{Id: i, Side: 1, Zone: 2, Bent: i%2 == 0})
	}
	wantNumIs(t, "BentOf", impl.BentOf(s, 1), 10)
	wantUpTo(t, s, 1, impl.GdMany, 8)
	wantUpTo(t, s, 1, impl.GdBent, 8)
}

// A life past its bounds is held against N as it is.
func TestHoldsOfLivesPastTheirBounds(t *testing.T) {
	for life, want := range map[int][3]bool{math.MinInt: {true, true, true}, -maxNum - 1: {true, true, true}, maxNum + 1: {}, math.MaxInt: {}, 4294967296: {}, -4294967296: {true, true, true}} {
		s := impl.State{Ss: []impl.Side{{Life: life}}}
		for i, n := range []int{-maxNum, 0, maxNum} {
			wantHolds(t, s, 0, impl.Guard{Kind: impl.GdLow, N: n}, want[i])
		}
	}
}

func TestGuardsAsTheDocumentSays(t *testing.T) {
	holds := map[bool]int{}
	for _, s := range append(append(guardStates(), rightStates()...), wrongStates()...) {
		for side := -2; side <= 5; side++ {
			_, bent := fieldCounts(s, side)
			wantNumIs(t, "BentOf", impl.BentOf(s, side), bent, s, side)
			for _, g := range append(rightGuards(), wrongGuards()[:20]...) {
				want := guardIsSo(s, side, g)
				wantHolds(t, s, side, g, want)
				holds[want]++
			}
		}
	}
	wantIs(t, "whether many hold, and many do not", holds[true] > 1000 && holds[false] > 1000, true, holds)
}

func TestStrongerOfItself(t *testing.T) {
	for _, g := range rightGuards() {
		wantIs(t, "Stronger of itself", impl.Stronger(g, g), true, g)
		wantIs(t, "Stronger than nothing", impl.Stronger(g, impl.Guard{}), true, g)
		wantIs(t, "Stronger of nothing", impl.Stronger(impl.Guard{}, g), g.Kind == impl.GdNone, g)
	}
	for _, g := range wrongGuards() {
		wantIs(t, "Stronger of itself, not being right,", impl.Stronger(g, g), false, g)
	}
}

func TestStrongerByN(t *testing.T) {
	for _, x := range []struct {
		kind      int
		g, h      int
		gh, there bool
	}{
		{impl.GdLow, 2, 3, true, false}, {impl.GdLow, -3, -2, true, false}, {impl.GdLow, -1, 1, true, false}, {impl.GdLow, -maxNum, maxNum, true, false},
		{impl.GdLow, -maxNum, -maxNum + 1, true, false}, {impl.GdLow, maxNum - 1, maxNum, true, false}, {impl.GdLow, 0, 0, true, true}, {impl.GdLow, -maxNum, -maxNum, true, true}, {impl.GdLow, maxNum, maxNum, true, true},
		{impl.GdMany, 3, 2, true, false}, {impl.GdMany, 1, 0, true, false}, {impl.GdMany, 8, 7, true, false}, {impl.GdMany, 8, 0, true, false}, {impl.GdMany, 4, 4, true, true}, {impl.GdMany, 0, 0, true, true},
		{impl.GdBent, 3, 2, true, false}, {impl.GdBent, 1, 0, true, false}, {impl.GdBent, 8, 7, true, false}, {impl.GdBent, 8, 0, true, false}, {impl.GdBent, 4, 4, true, true}, {impl.GdBent, 8, 8, true, true},
		{impl.GdTurn, 0, 0, true, true}, {impl.GdNone, 0, 0, true, true},
		{impl.GdLow, -maxNum - 1, 0, false, false}, {impl.GdLow, 0, maxNum + 1, false, false}, {impl.GdMany, 9, 8, false, false}, {impl.GdMany, 0, -1, false, false},
		{impl.GdBent, 9, 8, false, false}, {impl.GdBent, 0, -1, false, false}, {impl.GdTurn, 1, 0, false, false}, {impl.GdTurn, 0, -1, false, false}, {impl.GdNone, 1, 0, false, false}, {impl.GdNone, -1, 0, false, false},
	} {
		g, h := impl.Guard{Kind: x.kind, N: x.g}, impl.Guard{Kind: x.kind, N: x.h}
		wantIs(t, "Stronger", impl.Stronger(g, h), x.gh, g, h)
		wantIs(t, "Stronger the other way round", impl.Stronger(h, g), x.there, h, g)
	}
}

// Of two kinds only nothing is asked for by both, also where one holds of whatever there is.
func TestStrongerOfTwoKinds(t *testing.T) {
	for _, g := range rightGuards() {
		for _, h := range rightGuards() {
			if g.Kind != h.Kind {
				wantIs(t, "Stronger", impl.Stronger(g, h), h.Kind == impl.GdNone, g, h)
			}
		}
	}
}

func TestStrongerOfNoRightGuard(t *testing.T) {
	for _, g := range wrongGuards() {
		for _, h := range rightGuards() {
			wantIs(t, "Stronger", impl.Stronger(g, h), false, g, h)
			wantIs(t, "Stronger the other way round", impl.Stronger(h, g), false, h, g)
		}
		for _, h := range wrongGuards() {
			wantIs(t, "Stronger", impl.Stronger(g, h), false, g, h)
		}
	}
}

func TestStrongerAsTheDocumentSays(t *testing.T) {
	l := append(rightGuards(), wrongGuards()...)
	stronger := map[bool]int{}
	for _, g := range l {
		for _, h := range l {
			want := asksForAsMuch(g, h)
			wantIs(t, "Stronger", impl.Stronger(g, h), want, g, h)
			stronger[want]++
		}
	}
	wantIs(t, "whether many are stronger, and many are not", stronger[true] > 100 && stronger[false] > 100, true, stronger)
}

// Stronger goes from one to the next, and two are each stronger than the other
// only where they ask for the same.
func TestStrongerGoesOn(t *testing.T) {
	l := rightGuards()
	for _, g := range l {
		for _, h := range l {
			if !impl.Stronger(g, h) {
				continue
			}
			wantIs(t, "Stronger the other way round", impl.Stronger(h, g), g == h, h, g)
			for _, k := range l {
				if impl.Stronger(h, k) {
					wantIs(t, "Stronger than what is less yet", impl.Stronger(g, k), true, g, h, k)
				}
			}
		}
	}
}

// Promise 8.
func TestWhatHoldsMoreHoldsLess(t *testing.T) {
	seen := map[[2]int]int{}
	for _, s := range append(append(guardStates(), rightStates()...), wrongStates()...) {
		for side := -1; side <= 5; side++ {
			var holding []impl.Guard
			for _, g := range rightGuards() {
				if impl.Holds(s, side, g) {
					holding = append(holding, g)
				}
			}
			for _, g := range holding {
				for _, h := range rightGuards() {
					if impl.Stronger(g, h) {
						wantIs(t, "Holds of what is less strong", impl.Holds(s, side, h), true, s, side, g, h)
						seen[[2]int{g.Kind, h.Kind}]++
					}
				}
			}
		}
	}
	for kind := range 5 {
		wantIs(t, "whether there are many of a kind", seen[[2]int{kind, kind}] > 20 && seen[[2]int{kind, 0}] > 20, true, kind, seen)
	}
}

// Promise 8 the other way round: what is not stronger by its N alone may hold
// where the other one does not, so Stronger may not say so.
func TestWhatIsNotStrongerMayHoldAlone(t *testing.T) {
	for n := range 8 {
		s := stateOf(2)
		s.Ss[0].Life = n + 1
		for i := range n {
			s.Ps = append(s.Ps, impl.Piece{Id: 1 + i, Zone: 2, Bent: true})
		}
		for _, x := range [][2]impl.Guard{
			{{Kind: impl.GdLow, N: n + 1}, {Kind: impl.GdLow, N: n}},
			{{Kind: impl.GdMany, N: n}, {Kind: impl.GdMany, N: n + 1}},
			{{Kind: impl.GdBent, N: n}, {Kind: impl.GdBent, N: n + 1}},
			{{}, {Kind: impl.GdTurn}},
		} {
			wantHolds(t, s, 0, x[0], true)
			wantHolds(t, s, 0, x[1], false)
			wantIs(t, "Stronger", impl.Stronger(x[0], x[1]), false, x)
		}
	}
}

// What lies behind a state's lists is neither a piece nor a side.
func TestGuardsLookAtNoRoomBehind(t *testing.T) {
	for _, base := range []impl.State{{}, impl.StateNew(2), impl.StateNew(3), stateOf(2, idPieces(50, 60)...)} {
		s := roomyState(base)
		room := wholeRoom(s).Ps[len(s.Ps):]
		for i := range room {
			room[i] = impl.Piece{Id: 70 + i, Zone: 2, Bent: true}
		}
		for side := range 6 {
			_, bent := fieldCounts(base, side)
			wantNumIs(t, "BentOf, with room behind", impl.BentOf(s, side), bent, base, side)
			for _, g := range rightGuards() {
				wantHolds(t, s, side, g, guardIsSo(base, side, g))
			}
		}
	}
}

func TestAskingOfGuardsLeavesTheArguments(t *testing.T) {
	for _, base := range append(rightStates(), wrongStates()...) {
		s := roomyState(base)
		before := copyState(wholeRoom(s))
		for _, g := range append(rightGuards(), wrongGuards()[:10]...) {
			kept := g
			for side := -1; side <= 3; side++ {
				holds, bent := impl.Holds(s, side, g), impl.BentOf(s, side)
				impl.GuardOk(g)
				impl.Stronger(g, kept)
				wantIs(t, "Holds again", impl.Holds(s, side, g), holds, s, side, g)
				wantNumIs(t, "BentOf again", impl.BentOf(s, side), bent, s, side)
			}
			wantIs(t, "whether the guard is as it was", g == kept, true, g)
		}
		wantState(t, "what was asked in", wholeRoom(s), before)
	}
}
