package tests

import (
	"bytes"
	"math"
	"slices"
	"testing"

	"loop.example/g00486/impl"
)

// stateOf has no two numbers alike among its sides, so that none can stand for another.
func stateOf(sides int, ps ...impl.Piece) impl.State {
	ss := []impl.Side{{Life: 21, Poison: 31}, {Life: -22, Poison: 32, Lost: true}, {Life: 23, Poison: 33}, {Life: 24, Poison: 34, Lost: true}, {Life: 25, Poison: 35}}
	return impl.State{Ps: ps, Ss: ss[:sides:sides], Active: 1, Clock: 777}
}

// idPiece is right in a state of 2 sides, and of no other number than its Id.
func idPiece(id int) impl.Piece {
	return impl.Piece{Id: id, Owner: id % 2, Side: id % 2, Zone: 1 + id%4, Stamp: id, Power: 2 * id, Tough: 3 * id, Traits: id % 64}
}

func idPieces(ids ...int) []impl.Piece {
	var ps []impl.Piece
	for _, id := range ids {
		ps = append(ps, idPiece(id))
	}
	return ps
}

// countPieces ascend, so that a state of them is wrong by their number alone.
func countPieces(count int) []impl.Piece {
	var ps []impl.Piece
	for i := range count {
		ps = append(ps, idPiece(3+5*i))
	}
	return ps
}

func idsOf(ps []impl.Piece) []int {
	var ids []int
	for _, p := range ps {
		ids = append(ids, p.Id)
	}
	return ids
}

// mixedPieces are in all zones, owned and had by two sides.
func mixedPieces() []impl.Piece {
	return []impl.Piece{
		{Id: 2, Owner: 1, Side: 1, Zone: 1, Stamp: 3},
		{Id: 4, Owner: 0, Side: 1, Zone: 2, Stamp: 777, Power: 1, Tough: 2, Traits: 3, Plus: 4, Minus: 5, Marks: 6, Bent: true},
		fieldPiece(),
		{Id: 50, Owner: 0, Side: 0, Zone: 3},
		{Id: 60, Owner: 1, Side: 1, Zone: 2, Marks: maxNum, Deadly: true},
		{Id: 98, Owner: 0, Side: 0, Zone: 4, Traits: 63},
		{Id: 99, Owner: 0, Side: 0, Zone: 2, Plus: maxNum, Minus: maxNum},
	}
}

// copyState goes element by element, so that it shares nothing by any means of the program's.
func copyState(s impl.State) impl.State {
	out := impl.State{Active: s.Active, Clock: s.Clock}
	for _, p := range s.Ps {
		out.Ps = append(out.Ps, p)
	}
	for _, side := range s.Ss {
		out.Ss = append(out.Ss, side)
	}
	return out
}

func changed(s impl.State, change func(s *impl.State)) impl.State {
	out := copyState(s)
	change(&out)
	return out
}

func alike(a impl.State, b impl.State) bool {
	return slices.Equal(a.Ps, b.Ps) && slices.Equal(a.Ss, b.Ss) && a.Active == b.Active && a.Clock == b.Clock
}

func wantState(t *testing.T, name string, got impl.State, want impl.State) {
	t.Helper()
	if !alike(got, want) {
		t.Errorf("%s is %v, want %v", name, got, want)
	}
}

func rawState(s impl.State) []int {
	nums := []int{len(s.Ps)}
	for _, p := range s.Ps {
		nums = append(nums, rawPiece(p)...)
	}
	nums = append(nums, len(s.Ss))
	for _, side := range s.Ss {
		nums = append(nums, side.Life, side.Poison, bitOf(side.Lost))
	}
	return append(nums, s.Active, s.Clock)
}

func wantGetState(t *testing.T, b []byte, want impl.State) {
	t.Helper()
	if got, ok := impl.GetState(b); !ok || !alike(got, want) {
		t.Errorf("GetState of %x is %v and %v, want %v and true", b, got, ok, want)
	}
}

func wantNoGetState(t *testing.T, b []byte) {
	t.Helper()
	if got, ok := impl.GetState(b); ok || !alike(got, impl.State{}) {
		t.Errorf("GetState of %x is %v and %v, want the zero one and false", b, got, ok)
	}
}

func rightStates() []impl.State {
	l := []impl.State{
		impl.StateNew(2), impl.StateNew(3), stateOf(2), stateOf(3), stateOf(2, mixedPieces()...), stateOf(3, mixedPieces()...),
		{Ss: make([]impl.Side, 2)}, {Ss: make([]impl.Side, 3), Active: 2, Clock: 9999},
		{Ss: []impl.Side{{Life: maxNum, Poison: maxNum, Lost: true}, {Life: -maxNum}}, Active: 1, Clock: 9999},
		{Ss: []impl.Side{{}, {}, {Life: -maxNum, Poison: maxNum, Lost: true}}, Clock: 1},
		{Ps: []impl.Piece{{Id: 1, Owner: 2, Side: 2, Zone: 2}}, Ss: make([]impl.Side, 3)},
		{Ps: []impl.Piece{{Id: 1, Owner: 1, Side: 0, Zone: 2}, {Id: 99, Owner: 1, Side: 1, Zone: 4}}, Ss: make([]impl.Side, 2)},
	}
	for count := range 9 {
		l = append(l, stateOf(2, countPieces(count)...), stateOf(3, countPieces(count)...))
	}
	for _, p := range rightPieces() {
		l = append(l, changed(stateOf(3, p), func(s *impl.State) { s.Clock = 9999 }))
	}
	return l
}

// wrongStates are each wrong for one reason.
func wrongStates() []impl.State {
	l := []impl.State{{}, {Clock: 1}, {Ps: idPieces(1), Clock: 50}, stateOf(2, countPieces(9)...), stateOf(3, countPieces(10)...), stateOf(2, countPieces(19)...)}
	for _, sides := range []int{0, 1, 4, 5} {
		l = append(l, changed(stateOf(sides), func(s *impl.State) { s.Active = 0 }))
		l = append(l, changed(stateOf(sides), func(s *impl.State) { s.Active = sides - 1 }))
	}
	for _, sides := range []int{2, 3} {
		for _, active := range []int{math.MinInt, -maxNum, -2, -1, sides, sides + 1, maxNum, 4294967296, math.MaxInt} {
			l = append(l, changed(stateOf(sides), func(s *impl.State) { s.Active = active }))
		}
		for _, clock := range []int{math.MinInt, -maxNum, -1, 10000, maxNum, 4294967296, math.MaxInt} {
			l = append(l, changed(stateOf(sides), func(s *impl.State) { s.Clock = clock }))
		}
		for i := range sides {
			for _, life := range []int{-maxNum - 1, maxNum + 1, math.MinInt, math.MaxInt} {
				l = append(l, changed(stateOf(sides), func(s *impl.State) { s.Ss[i].Life = life }))
			}
			for _, poison := range []int{-1, -maxNum, maxNum + 1, math.MinInt, math.MaxInt} {
				l = append(l, changed(stateOf(sides), func(s *impl.State) { s.Ss[i].Poison = poison }))
			}
		}
	}
	return append(append(l, statesOfWrongPieces()...), statesOutOfOrder()...)
}

func statesOfWrongPieces() []impl.State {
	l := []impl.State{
		stateOf(2, impl.Piece{Id: 5, Owner: 2, Zone: 2}), stateOf(2, impl.Piece{Id: 5, Side: 2, Zone: 2}), stateOf(2, impl.Piece{Id: 5, Owner: 2, Side: 2, Zone: 2}),
		stateOf(2, impl.Piece{Id: 5, Owner: 2, Side: 2, Zone: 1}), stateOf(2, impl.Piece{Id: 5, Owner: 2, Side: 2, Zone: 4}),
		stateOf(3, impl.Piece{Id: 5, Owner: 3, Zone: 2}), stateOf(3, impl.Piece{Id: 5, Side: 3, Zone: 2}), stateOf(3, impl.Piece{Id: 5, Side: -1, Zone: 2}),
		stateOf(2, impl.Piece{Id: 5, Zone: 2, Stamp: 778}), stateOf(3, impl.Piece{Id: 5, Zone: 1, Stamp: 9999}),
		{Ps: []impl.Piece{{Id: 5, Zone: 2, Stamp: 1}}, Ss: make([]impl.Side, 2)},
	}
	for _, p := range wrongPieces() {
		l = append(l, changed(stateOf(3, p), func(s *impl.State) { s.Clock = 9999 }))
	}
	for i := range mixedPieces() {
		for _, change := range []func(p *impl.Piece){
			func(p *impl.Piece) { p.Owner, p.Side = 2, 2 },
			func(p *impl.Piece) { p.Stamp = 778 },
			func(p *impl.Piece) { p.Power = 1000 },
			func(p *impl.Piece) { p.Zone = 0 },
		} {
			l = append(l, changed(stateOf(2, mixedPieces()...), func(s *impl.State) { change(&s.Ps[i]) }))
		}
	}
	return l
}

func statesOutOfOrder() []impl.State {
	var l []impl.State
	for _, ids := range [][]int{
		{1, 1}, {99, 99}, {2, 1}, {99, 1}, {1, 1, 2}, {1, 2, 2}, {1, 2, 1}, {2, 1, 3}, {1, 3, 2}, {3, 2, 1}, {5, 5, 5},
		{1, 2, 3, 4, 5, 6, 8, 7}, {2, 1, 3, 4, 5, 6, 7, 8}, {1, 2, 3, 4, 5, 6, 7, 7}, {1, 2, 3, 3, 4, 5, 6, 7},
	} {
		l = append(l, stateOf(2, idPieces(ids...)...), stateOf(3, idPieces(ids...)...))
	}
	return append(l, stateOf(2, impl.Piece{Id: 7, Zone: 2}, impl.Piece{Id: 7, Zone: 3}))
}

func TestMaxPieces(t *testing.T) {
	if impl.MaxPieces != 8 {
		t.Errorf("MaxPieces is %d", impl.MaxPieces)
	}
}

func TestStateOk(t *testing.T) {
	for _, s := range rightStates() {
		wantIs(t, "StateOk", impl.StateOk(s), true, s)
	}
	for _, s := range wrongStates() {
		wantIs(t, "StateOk", impl.StateOk(s), false, s)
	}
}

func TestStateOkByNumberOfPieces(t *testing.T) {
	for count := range 20 {
		for _, sides := range []int{2, 3} {
			s := stateOf(sides, countPieces(count)...)
			wantIs(t, "StateOk", impl.StateOk(s), count <= 8, count, sides)
		}
	}
}

func TestStateOkBySidesAndActive(t *testing.T) {
	for sides := range 6 {
		for _, active := range append(edgeNums(), 4, 5, 6) {
			s := impl.State{Ss: make([]impl.Side, sides), Active: active}
			wantIs(t, "StateOk", impl.StateOk(s), (sides == 2 || sides == 3) && 0 <= active && active < sides, sides, active)
		}
	}
}

func TestStateOkByClockAndStamp(t *testing.T) {
	for _, clock := range append(edgeNums(), 9998, 9999, 10000, 10001) {
		s := stateOf(2)
		s.Clock = clock
		wantIs(t, "StateOk by its Clock", impl.StateOk(s), 0 <= clock && clock <= 9999, clock)
	}
	for _, clock := range []int{0, 1, 500, 9998, 9999} {
		for _, stamp := range []int{-1, 0, 1, 2, 499, 500, 501, 9998, 9999, 10000} {
			for i := range 3 {
				s := changed(impl.State{Ps: []impl.Piece{{Id: 1, Zone: 1}, {Id: 2, Zone: 2}, {Id: 3, Zone: 3}}, Ss: make([]impl.Side, 2), Clock: clock}, func(s *impl.State) {
					s.Ps[i].Stamp = stamp
				})
				wantIs(t, "StateOk by a Stamp", impl.StateOk(s), 0 <= stamp && stamp <= clock && stamp <= 9999, clock, stamp)
			}
		}
	}
}

func TestStateOkByLifeAndPoison(t *testing.T) {
	for _, sides := range []int{2, 3} {
		for i := range sides {
			for _, n := range edgeNums() {
				for _, lost := range []bool{false, true} {
					life := changed(stateOf(sides), func(s *impl.State) { s.Ss[i].Life, s.Ss[i].Lost = n, lost })
					wantIs(t, "StateOk by a Life", impl.StateOk(life), -maxNum <= n && n <= maxNum, i, n)
					poison := changed(stateOf(sides), func(s *impl.State) { s.Ss[i].Poison, s.Ss[i].Lost = n, lost })
					wantIs(t, "StateOk by a Poison", impl.StateOk(poison), 0 <= n && n <= maxNum, i, n)
				}
			}
		}
	}
}

func TestStateOkByWhoHasAPiece(t *testing.T) {
	for _, sides := range []int{2, 3} {
		for owner := -1; owner <= 4; owner++ {
			for side := -1; side <= 4; side++ {
				for zone := 1; zone <= 4; zone++ {
					s := stateOf(sides, impl.Piece{Id: 7, Owner: owner, Side: side, Zone: zone})
					there := 0 <= owner && owner < sides && 0 <= side && side < sides
					wantIs(t, "StateOk", impl.StateOk(s), there && (zone == 2 || owner == side), s)
				}
			}
		}
	}
}

func TestStateOkByOrder(t *testing.T) {
	for a := 1; a <= 4; a++ {
		for b := 1; b <= 4; b++ {
			for c := 1; c <= 4; c++ {
				s := stateOf(2, idPieces(a, b, c)...)
				wantIs(t, "StateOk", impl.StateOk(s), a < b && b < c, a, b, c)
			}
		}
	}
}

// stateChanges holds a change of each part of a state alone, where it has pieces and sides.
func stateChanges(s impl.State) []impl.State {
	l := []impl.State{
		changed(s, func(s *impl.State) { s.Active++ }), changed(s, func(s *impl.State) { s.Active -= 4294967296 }),
		changed(s, func(s *impl.State) { s.Clock++ }), changed(s, func(s *impl.State) { s.Clock -= 4294967296 }),
	}
	for i := range s.Ps {
		for _, part := range pieceParts() {
			l = append(l, changed(s, func(s *impl.State) { *part.field(&s.Ps[i])++ }))
		}
		l = append(l, changed(s, func(s *impl.State) { s.Ps[i].Deadly = !s.Ps[i].Deadly }))
		l = append(l, changed(s, func(s *impl.State) { s.Ps[i].Bent = !s.Ps[i].Bent }))
		l = append(l, changed(s, func(s *impl.State) { s.Ps = slices.Delete(s.Ps, i, i+1) }))
	}
	for i := range s.Ss {
		l = append(l, changed(s, func(s *impl.State) { s.Ss[i].Life++ }))
		l = append(l, changed(s, func(s *impl.State) { s.Ss[i].Poison-- }))
		l = append(l, changed(s, func(s *impl.State) { s.Ss[i].Lost = !s.Ss[i].Lost }))
		l = append(l, changed(s, func(s *impl.State) { s.Ss = slices.Delete(s.Ss, i, i+1) }))
	}
	// One more that is the zero one might be taken for none.
	for i := range len(s.Ps) + 1 {
		l = append(l, changed(s, func(s *impl.State) { s.Ps = slices.Insert(s.Ps, i, impl.Piece{}) }))
		l = append(l, changed(s, func(s *impl.State) { s.Ps = slices.Insert(s.Ps, i, impl.Piece{Id: 70, Zone: 2}) }))
	}
	for i := range len(s.Ss) + 1 {
		l = append(l, changed(s, func(s *impl.State) { s.Ss = slices.Insert(s.Ss, i, impl.Side{}) }))
		l = append(l, changed(s, func(s *impl.State) { s.Ss = slices.Insert(s.Ss, i, impl.Side{Life: 20}) }))
	}
	return l
}

func TestSameState(t *testing.T) {
	manySides := stateOf(5, mixedPieces()...)
	manySides.Ss = slices.Concat(manySides.Ss, manySides.Ss, []impl.Side{{Life: 1}, {Life: 2}})
	for _, s := range []impl.State{
		{}, {Ss: make([]impl.Side, 1)}, impl.StateNew(2), impl.StateNew(3), {Ps: idPieces(4)}, stateOf(1), stateOf(2, idPieces(1, 2)...),
		stateOf(2, mixedPieces()...), stateOf(3, mixedPieces()...), stateOf(4, mixedPieces()...), stateOf(5), manySides,
		stateOf(3, countPieces(20)...), stateOf(3, idPieces(9, 9, 1)...), {Active: math.MinInt, Clock: math.MaxInt},
	} {
		wantIs(t, "SameState with itself", impl.SameState(s, s), true, s)
		wantIs(t, "SameState with its copy", impl.SameState(s, copyState(s)), true, s)
		for _, other := range stateChanges(s) {
			wantIs(t, "SameState", impl.SameState(s, other), false, s, other)
			wantIs(t, "SameState", impl.SameState(other, s), false, other, s)
			wantIs(t, "SameState with itself", impl.SameState(other, copyState(other)), true, other)
		}
	}
}

func TestSameStateAmongStates(t *testing.T) {
	all := append(rightStates(), wrongStates()...)
	for i, a := range all {
		for _, b := range all[:i+1] {
			if impl.SameState(a, b) != alike(a, b) || impl.SameState(b, a) != alike(a, b) {
				t.Errorf("SameState of %v and %v is %v and %v", a, b, impl.SameState(a, b), impl.SameState(b, a))
			}
		}
	}
}

func TestSameStateLooksAtOrderAndNotAtRoom(t *testing.T) {
	a, b := stateOf(2, idPieces(1, 2)...), stateOf(2, idPieces(2, 1)...)
	wantIs(t, "SameState of pieces the other way round", impl.SameState(a, b), false, a, b)
	b = changed(a, func(s *impl.State) { slices.Reverse(s.Ss) })
	wantIs(t, "SameState of sides the other way round", impl.SameState(a, b), false, a, b)
	nothing, empty := impl.State{}, impl.State{Ps: []impl.Piece{}, Ss: []impl.Side{}}
	wantIs(t, "SameState of nil and empty", impl.SameState(nothing, empty), true, nothing, empty)
	wantIs(t, "SameState of empty and nil", impl.SameState(empty, nothing), true, empty, nothing)
	for sides := range 6 {
		for _, more := range [][]impl.Side{nil, {{Life: 5}}, {{}, {Lost: true}}} {
			a, b := stateOf(sides, idPieces(3)...), roomyState(stateOf(sides, idPieces(3)...))
			b.Ss = append(slices.Clone(b.Ss), more...)[:sides]
			wantIs(t, "SameState with room behind", impl.SameState(a, b), true, a, b)
			wantIs(t, "SameState with room behind", impl.SameState(b, a), true, b, a)
		}
	}
}

func TestStateNew(t *testing.T) {
	twenty := impl.Side{Life: 20}
	two, three := impl.State{Ss: []impl.Side{twenty, twenty}}, impl.State{Ss: []impl.Side{twenty, twenty, twenty}}
	wantState(t, "StateNew of 3", impl.StateNew(3), three)
	for _, sides := range append(edgeNums(), 4, 5, 259, 4294967299, -5) {
		if sides != 3 {
			wantState(t, "StateNew of "+impl.NumText(sides), impl.StateNew(sides), two)
		}
		wantIs(t, "StateOk of StateNew", impl.StateOk(impl.StateNew(sides)), true, sides)
		wantGetState(t, impl.PutState(impl.StateNew(sides)), impl.StateNew(sides))
	}
}

func TestPieceAt(t *testing.T) {
	for _, x := range []struct{ ids, places []int }{
		{nil, []int{-1, -1, -1, -1}}, {[]int{1}, []int{-1, 0, -1, -1}}, {[]int{3, 1}, []int{-1, 1, -1, 0}},
		{[]int{1, 2, 3}, []int{-1, 0, 1, 2}}, {[]int{2, 2}, []int{-1, -1, 0, -1}}, {[]int{3, 2, 3, 2}, []int{-1, -1, 1, 0}},
		{[]int{0, 1, 0, 1, 9, 3}, []int{0, 1, -1, 5}},
	} {
		for id, place := range x.places {
			for _, s := range []impl.State{stateOf(2, idPieces(x.ids...)...), {Ps: idPieces(x.ids...)}} {
				if got := impl.PieceAt(s, id); got != place {
					t.Errorf("PieceAt of %v and %d is %d, want %d", x.ids, id, got, place)
				}
			}
		}
	}
	for _, id := range edgeNums() {
		s := impl.State{Ps: []impl.Piece{{Id: 5}, {Id: id}, {Id: id, Zone: 2}, {Id: 6}}}
		if got := impl.PieceAt(s, id); got != 1 {
			t.Errorf("PieceAt of %d is %d, want 1", id, got)
		}
		if got := impl.PieceAt(stateOf(2, idPieces(4, 44)...), id); got != -1 {
			t.Errorf("PieceAt of %d, which there is not, is %d", id, got)
		}
	}
}

func TestPieceAtOfRoomBehind(t *testing.T) {
	room := idPieces(1, 2, 3)
	if got := impl.PieceAt(impl.State{Ps: room[:2]}, 3); got != -1 {
		t.Errorf("PieceAt of a piece behind the list is %d", got)
	}
}

func TestSetPieceTable(t *testing.T) {
	for _, x := range []struct {
		ids  []int
		id   int
		want []int
		at   int
	}{
		{nil, 5, []int{5}, 0}, {[]int{5}, 5, []int{5}, 0}, {[]int{5}, 4, []int{4, 5}, 0}, {[]int{5}, 6, []int{5, 6}, 1},
		{[]int{2, 4, 6}, 1, []int{1, 2, 4, 6}, 0}, {[]int{2, 4, 6}, 3, []int{2, 3, 4, 6}, 1}, {[]int{2, 4, 6}, 5, []int{2, 4, 5, 6}, 2}, {[]int{2, 4, 6}, 7, []int{2, 4, 6, 7}, 3},
		{[]int{2, 4, 6}, 2, []int{2, 4, 6}, 0}, {[]int{2, 4, 6}, 4, []int{2, 4, 6}, 1}, {[]int{2, 4, 6}, 6, []int{2, 4, 6}, 2},
		{[]int{6, 2, 4}, 3, []int{3, 6, 2, 4}, 0}, {[]int{6, 2, 4}, 4, []int{6, 2, 4}, 2}, {[]int{6, 2, 4}, 7, []int{6, 2, 4, 7}, 3}, {[]int{2, 1, 6, 3, 6}, 4, []int{2, 1, 4, 6, 3, 6}, 2},
		{[]int{4, 4}, 4, []int{4, 4}, 0}, {[]int{4, 4, 4}, 5, []int{4, 4, 4, 5}, 3}, {[]int{4, 4, 4}, 3, []int{3, 4, 4, 4}, 0}, {[]int{9, 4, 4}, 4, []int{9, 4, 4}, 1},
		{[]int{1, 2, 3, 4, 5, 6, 7, 8}, 9, []int{1, 2, 3, 4, 5, 6, 7, 8, 9}, 8}, {[]int{1, 2, 3, 4, 5, 6, 7, 8}, 8, []int{1, 2, 3, 4, 5, 6, 7, 8}, 7},
		{[]int{-1, 0, 1}, 0, []int{-1, 0, 1}, 1}, {[]int{-1, 1}, 0, []int{-1, 0, 1}, 1}, {[]int{0}, math.MinInt, []int{math.MinInt, 0}, 0}, {[]int{math.MinInt, 0}, math.MaxInt, []int{math.MinInt, 0, math.MaxInt}, 2},
	} {
		p := impl.Piece{Id: x.id, Owner: 1, Side: 0, Zone: 2, Marks: 55, Bent: true}
		for sides := range 5 {
			s := stateOf(sides, idPieces(x.ids...)...)
			got := impl.SetPiece(s, p)
			wantSet(t, "the Ids of SetPiece", idsOf(got.Ps), x.want, x.ids, x.id)
			want := copyState(s)
			if len(x.want) > len(x.ids) {
				want.Ps = slices.Insert(want.Ps, x.at, p)
			} else {
				want.Ps[x.at] = p
			}
			wantState(t, "SetPiece", got, want)
		}
	}
}

func TestSetPieceSetBack(t *testing.T) {
	for _, s := range append(rightStates(), stateOf(2, idPieces(3, 3, 1)...), stateOf(4, idPieces(9, 2, 5)...), impl.State{Ps: countPieces(30)}) {
		wrong := func(id int) impl.Piece { return impl.Piece{Id: id, Zone: 9, Marks: -1} }
		for _, id := range idsOf(s.Ps) {
			first := s.Ps[slices.Index(idsOf(s.Ps), id)]
			wantState(t, "SetPiece of what is there", impl.SetPiece(s, first), s)
			got := impl.SetPiece(s, wrong(id))
			if len(got.Ps) != len(s.Ps) || alike(got, s) {
				t.Errorf("SetPiece of another of the Id %d in %v is %v", id, s, got)
			}
			wantState(t, "SetPiece set back", impl.SetPiece(got, first), s)
		}
	}
}

func TestSetPieceKeepsARightState(t *testing.T) {
	for _, s := range rightStates() {
		for id := 1; id <= 99; id++ {
			there := slices.Contains(idsOf(s.Ps), id)
			p := impl.Piece{Id: id, Owner: 1, Side: 1, Zone: 3, Stamp: s.Clock}
			got := impl.SetPiece(s, p)
			wantIs(t, "StateOk of SetPiece", impl.StateOk(got), there || len(s.Ps) < 8, s, id)
			if at := slices.Index(got.Ps, p); at < 0 || at != impl.PieceAt(got, id) {
				t.Errorf("SetPiece of %v in %v has it at %d", p, s, at)
			}
			if !there {
				got.Ps = slices.DeleteFunc(got.Ps, func(q impl.Piece) bool { return q == p })
				wantState(t, "SetPiece, but for the piece,", got, s)
			}
		}
	}
}

// Nothing names an answer of its own for a piece that is not right, so it is set as it is.
func TestSetPieceOfNoRightPiece(t *testing.T) {
	for _, p := range wrongPieces() {
		s := stateOf(2, idPieces(7)...)
		got := impl.SetPiece(s, p)
		if !slices.Contains(got.Ps, p) || !slices.Equal(got.Ss, s.Ss) {
			t.Errorf("SetPiece of %v is %v", p, got)
		}
	}
	got := impl.SetPiece(stateOf(2, countPieces(8)...), impl.Piece{Id: 99, Zone: 2})
	wantIs(t, "StateOk of one piece too many", impl.StateOk(got), false, got)
	if len(got.Ps) != 9 {
		t.Errorf("SetPiece of a ninth piece has %d", len(got.Ps))
	}
}

func TestOnField(t *testing.T) {
	for _, sides := range []int{2, 3} {
		s := stateOf(sides, mixedPieces()...)
		for _, x := range []struct {
			side int
			want []int
		}{
			{-1, []int{4, 12, 60, 99}}, {0, []int{12, 99}}, {1, []int{4, 60}}, {2, nil}, {3, nil}, {-2, nil}, {math.MinInt, nil}, {math.MaxInt, nil}, {4294967296, nil}, {4294967295, nil},
		} {
			wantSet(t, "OnField", impl.OnField(s, x.side), x.want, s, x.side)
		}
	}
	for _, side := range append(edgeNums(), 4) {
		wantSet(t, "OnField of no pieces", impl.OnField(stateOf(2), side), nil, side)
		wantSet(t, "OnField of the zero state", impl.OnField(impl.State{}, side), nil, side)
		off := stateOf(2, plainPiece(1), plainPiece(3), plainPiece(4))
		wantSet(t, "OnField of pieces off the field", impl.OnField(off, side), nil, side)
	}
}

func TestOnFieldByEachSide(t *testing.T) {
	for owner := range 3 {
		for has := range 3 {
			s := stateOf(3, impl.Piece{Id: 7, Owner: owner, Side: has, Zone: 2})
			for side := -3; side <= 4; side++ {
				var want []int
				if side == -1 || side == has {
					want = []int{7}
				}
				wantSet(t, "OnField", impl.OnField(s, side), want, s, side)
			}
		}
	}
}

// The pieces are told as they stand, also where the state is not right.
func TestOnFieldOfNoRightState(t *testing.T) {
	s := impl.State{Ps: []impl.Piece{{Id: 9, Side: 1, Zone: 2}, {Id: 3, Side: 2, Zone: 2}, {Id: 9, Side: 1, Zone: 2}, {Id: -4, Side: 1, Zone: 2}, {Id: 5, Side: 1, Zone: 0}, {Id: 6, Side: 1, Zone: -2}, {Id: 8, Side: -1, Zone: 2}, {Id: 2, Side: -2, Zone: 2}}}
	wantSet(t, "OnField", impl.OnField(s, 1), []int{9, 9, -4}, s, 1)
	wantSet(t, "OnField", impl.OnField(s, 2), []int{3}, s, 2)
	wantSet(t, "OnField", impl.OnField(s, -2), []int{2}, s, -2)
	wantSet(t, "OnField", impl.OnField(s, -1), []int{9, 3, 9, -4, 8, 2}, s, -1)
	wantSet(t, "OnField", impl.OnField(s, 0), nil, s, 0)
}

func TestPutStateTable(t *testing.T) {
	life, none, one := "\x80\x00\x00\x14", "\x80\x00\x00\x00", "\x80\x00\x00\x01"
	side := life + none + none
	wantBytes(t, "PutState of StateNew of 2", impl.PutState(impl.StateNew(2)), []byte(none+"\x80\x00\x00\x02"+side+side+none+none))
	wantBytes(t, "PutState of StateNew of 3", impl.PutState(impl.StateNew(3)), []byte(none+"\x80\x00\x00\x03"+side+side+side+none+none))
	s := impl.State{Ps: []impl.Piece{fieldPiece()}, Ss: []impl.Side{{Life: -1, Poison: 2, Lost: true}, {Life: maxNum, Poison: 3}}, Active: 1, Clock: 9999}
	want := one + string(impl.PutPiece(nil, fieldPiece())) + "\x80\x00\x00\x02" +
		"\x7f\xff\xff\xff\x80\x00\x00\x02" + one + "\xff\xff\xff\xff\x80\x00\x00\x03" + none + one + "\x80\x00\x27\x0f"
	wantBytes(t, "PutState", impl.PutState(s), []byte(want))
}

func TestStateComesBack(t *testing.T) {
	for _, s := range rightStates() {
		b := impl.PutState(s)
		wantBytes(t, "PutState", b, rawBytes(rawState(s)))
		wantGetState(t, b, s)
		got, _ := impl.GetState(b)
		wantIs(t, "SameState of what comes back", impl.SameState(got, s), true, got, s)
		wantIs(t, "StateOk of what comes back", impl.StateOk(got), true, got)
		wantBytes(t, "PutState of what comes back", impl.PutState(got), b)
		spare := append(slices.Clone(b), 128, 0, 0, 0)[:len(b)]
		wantGetState(t, spare, s)
	}
}

func TestPutStateOfNoRightState(t *testing.T) {
	for _, s := range wrongStates() {
		wantBytes(t, "PutState of no right state", impl.PutState(s), nil)
	}
}

func TestGetStateOfNoRightState(t *testing.T) {
	for _, s := range wrongStates() {
		if nums := rawState(s); slices.Equal(nums, bounded(nums)) {
			wantNoGetState(t, rawBytes(nums))
		}
	}
}

func TestGetStateCutShort(t *testing.T) {
	wantNoGetState(t, nil)
	wantNoGetState(t, []byte{})
	for _, s := range []impl.State{impl.StateNew(2), impl.StateNew(3), stateOf(2, idPieces(1)...), stateOf(3, mixedPieces()...), stateOf(3, countPieces(8)...)} {
		b := impl.PutState(s)
		for size := range len(b) {
			// The spare room behind has the rest; it is not to be read.
			wantNoGetState(t, b[:size])
			wantNoGetState(t, slices.Clone(b[:size]))
		}
	}
}

func TestGetStateOfMoreBehind(t *testing.T) {
	for _, s := range rightStates() {
		b := impl.PutState(s)
		for _, more := range [][]byte{{0}, {1}, {255}, {128, 0, 0, 0}, {0, 0, 0, 0}, b} {
			wantNoGetState(t, slices.Concat(b, more))
			wantNoGetState(t, slices.Concat(more, b))
		}
	}
}

func TestGetStateOfNoCount(t *testing.T) {
	wrong := []int{-maxNum, -256, -8, -3, -2, -1, 10, 255, 256, 257, 258, 65536, 65538, maxNum}
	for _, s := range []impl.State{stateOf(2), stateOf(3), stateOf(2, mixedPieces()...), stateOf(3, countPieces(8)...)} {
		places := []int{0, 1 + 13*len(s.Ps)}
		for _, place := range places {
			for _, n := range append(wrong, 0, 1, 2, 3, 4, 5, 8, 9) {
				nums := rawState(s)
				if nums[place] != n {
					nums[place] = n
					wantNoGetState(t, rawBytes(nums))
				}
			}
			b := impl.PutState(s)
			copy(b[4*place:], []byte{0, 0, 0, 0})
			wantNoGetState(t, b)
		}
	}
	for _, n := range wrong {
		wantNoGetState(t, rawBytes([]int{n}))
		wantNoGetState(t, rawBytes([]int{0, n}))
		wantNoGetState(t, rawBytes([]int{n, 2, 20, 0, 0, 20, 0, 0, 0, 0}))
		wantNoGetState(t, rawBytes([]int{0, n, 20, 0, 0, 20, 0, 0, 0, 0}))
	}
}

// The bytes are as many as the count says, so that the count alone is wrong.
func TestGetStateOfTooManyOrTooFew(t *testing.T) {
	for count := range 20 {
		s := stateOf(2, countPieces(count)...)
		if count <= 8 {
			wantGetState(t, rawBytes(rawState(s)), s)
			continue
		}
		wantNoGetState(t, rawBytes(rawState(s)))
	}
	for sides := range 6 {
		for active := range sides + 1 {
			s := impl.State{Ss: make([]impl.Side, sides), Active: active}
			if (sides == 2 || sides == 3) && active < sides {
				wantGetState(t, rawBytes(rawState(s)), s)
				continue
			}
			wantNoGetState(t, rawBytes(rawState(s)))
		}
	}
}

func TestGetStateOfNoFlag(t *testing.T) {
	for _, s := range []impl.State{stateOf(2), stateOf(3), stateOf(3, mixedPieces()...)} {
		first := 1 + 13*len(s.Ps) + 1
		places := []int{}
		for i := range s.Ss {
			places = append(places, first+3*i+2)
		}
		for i := range s.Ps {
			places = append(places, 1+13*i+11, 1+13*i+12)
		}
		for _, place := range places {
			for _, n := range []int{-maxNum, -256, -2, -1, 2, 3, 255, 256, 257, 65537, maxNum} {
				nums := rawState(s)
				nums[place] = n
				wantNoGetState(t, rawBytes(nums))
			}
		}
		for i := range s.Ss {
			nums := rawState(s)
			nums[first+3*i+2] = 1 - nums[first+3*i+2]
			wantGetState(t, rawBytes(nums), changed(s, func(s *impl.State) { s.Ss[i].Lost = !s.Ss[i].Lost }))
		}
	}
}

// What is read at all is put in just these bytes again, whichever byte is another.
func TestGetStateOfOtherBytes(t *testing.T) {
	for _, s := range []impl.State{impl.StateNew(2), stateOf(3, mixedPieces()...)} {
		for at := range impl.PutState(s) {
			for _, c := range []byte{0, 1, 2, 3, 7, 127, 128, 129, 254, 255} {
				b := impl.PutState(s)
				b[at] = c
				got, ok := impl.GetState(b)
				if !ok {
					wantNoGetState(t, b)
					continue
				}
				wantIs(t, "StateOk of what was read", impl.StateOk(got), true, got)
				wantBytes(t, "PutState of what was read", impl.PutState(got), b)
				wantBytes(t, "the bytes of what was read", rawBytes(rawState(got)), b)
			}
		}
	}
}

// roomyState has room behind its lists, which has pieces and sides that would show.
func roomyState(s impl.State) impl.State {
	out := copyState(s)
	out.Ps = append(out.Ps, idPieces(1, 98, 4, 97)...)[:len(s.Ps)]
	out.Ss = append(out.Ss, impl.Side{Life: 91, Poison: 92, Lost: true}, impl.Side{}, impl.Side{Life: -93})[:len(s.Ss)]
	return out
}

func wholeRoom(s impl.State) impl.State {
	return impl.State{Ps: s.Ps[:cap(s.Ps)], Ss: s.Ss[:cap(s.Ss)], Active: s.Active, Clock: s.Clock}
}

func spoil(s impl.State) {
	whole := wholeRoom(s)
	for i := range whole.Ps {
		whole.Ps[i] = impl.Piece{Id: ^whole.Ps[i].Id, Marks: -5}
	}
	for i := range whole.Ss {
		whole.Ss[i] = impl.Side{Life: ^whole.Ss[i].Life, Poison: -6}
	}
}

func TestSetPieceSharesNoMemory(t *testing.T) {
	for _, base := range append(append(rightStates(), wrongStates()...), impl.State{Ps: idPieces(7, 7)}) {
		for _, p := range append(idPieces(0, 1, 3, 6, 50, 99), base.Ps...) {
			s := roomyState(base)
			before := copyState(wholeRoom(s))
			got := impl.SetPiece(s, p)
			want := copyState(got)
			wantState(t, "what SetPiece was asked in", wholeRoom(s), before)
			spoil(got)
			wantState(t, "what SetPiece was asked in, the answer written over,", wholeRoom(s), before)
			got = impl.SetPiece(s, p)
			spoil(s)
			wantState(t, "SetPiece with its argument written over", got, want)
		}
	}
}

func TestAskingLeavesTheState(t *testing.T) {
	for _, base := range append(rightStates(), wrongStates()...) {
		s, other := roomyState(base), roomyState(stateOf(3, mixedPieces()...))
		before, beforeOther := copyState(wholeRoom(s)), copyState(wholeRoom(other))
		wantIs(t, "StateOk, with room behind", impl.StateOk(s), impl.StateOk(copyState(base)), base)
		wantIs(t, "SameState, with room behind", impl.SameState(s, base), true, base)
		impl.SameState(s, other)
		impl.SameState(other, s)
		for id := -1; id <= 100; id++ {
			if got := impl.PieceAt(s, id); got != slices.Index(idsOf(base.Ps), id) {
				t.Errorf("PieceAt of %d in %v, with room behind, is %d", id, base, got)
			}
		}
		for side := -2; side <= 3; side++ {
			ids := impl.OnField(s, side)
			wantSet(t, "OnField, with room behind", ids, impl.OnField(copyState(base), side), base, side)
			flip(ids[:cap(ids)])
		}
		b := impl.PutState(s)
		wantBytes(t, "PutState, with room behind", b, impl.PutState(copyState(base)))
		want := slices.Clone(b)
		flipBytes(b[:cap(b)])
		wantBytes(t, "PutState again", impl.PutState(s), want)
		wantState(t, "what was asked in", wholeRoom(s), before)
		wantState(t, "what was asked for", wholeRoom(other), beforeOther)
	}
}

func flipBytes(b []byte) {
	for i := range b {
		b[i] ^= 255
	}
}

func TestGetStateSharesNoMemory(t *testing.T) {
	for _, s := range rightStates() {
		b := impl.PutState(s)
		room := append(slices.Clone(b), bytes.Repeat([]byte{77}, 60)...)
		before := slices.Clone(room)
		first, _ := impl.GetState(room[:len(b)])
		second, _ := impl.GetState(room[:len(b)])
		wantBytes(t, "what was read", room, before)
		spoil(first)
		wantBytes(t, "what was read, the answer written over,", room, before)
		flipBytes(room)
		wantState(t, "GetState with its bytes written over", second, s)
	}
}

func TestStateNewSharesNoMemory(t *testing.T) {
	for _, sides := range []int{2, 3, 7} {
		want := copyState(impl.StateNew(sides))
		spoil(impl.StateNew(sides))
		wantState(t, "StateNew again", impl.StateNew(sides), want)
	}
}
