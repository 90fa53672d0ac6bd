package tests

import (
	"fmt"
	"math"
	"strings"
	"testing"

	"loop.example/g00486/impl"
)

// The parts of an event, in the document's order.
const (
	kindPart = iota
	srcPart
	piecePlace
	sidePart
	nPart
	zonePart
	bentPart
	eventSize
)

// An eventRow is an event as numbers, of Bent 1 or 0.
type eventRow [eventSize]int

func rowOf(e impl.Event) eventRow {
	return eventRow{e.Kind, e.Src, e.Piece, e.Side, e.N, e.Zone, bitOf(e.Bent)}
}

func (row eventRow) event() impl.Event {
	return impl.Event{Kind: row[0], Src: row[1], Piece: row[2], Side: row[3], N: row[4], Zone: row[5], Bent: row[6] != 0}
}

func withEventPart(e impl.Event, part int, n int) impl.Event {
	row := rowOf(e)
	row[part] = n
	return row.event()
}

// An eventShape has the least and the greatest of each part, in the order of an eventRow.
type eventShape struct{ least, most eventRow }

func eventShapes() []eventShape {
	return []eventShape{
		{eventRow{1, 1, 1, -1, 0, 0, 0}, eventRow{1, 99, 99, -1, maxNum, 0, 0}},
		{eventRow{1, 1, 0, 0, 0, 0, 0}, eventRow{1, 99, 0, 2, maxNum, 0, 0}},
		{eventRow{2, 0, 1, -1, 0, 2, 0}, eventRow{2, 0, 99, -1, 99, 2, 1}},
		{eventRow{2, 0, 1, -1, 0, 1, 0}, eventRow{2, 0, 99, -1, 0, 1, 0}},
		{eventRow{2, 0, 1, -1, 0, 3, 0}, eventRow{2, 0, 99, -1, 0, 4, 0}},
		{eventRow{3, 0, 0, 0, 0, 0, 0}, eventRow{3, 0, 0, 2, maxNum, 0, 0}},
		{eventRow{4, 0, 0, 0, 0, 0, 0}, eventRow{4, 0, 0, 2, maxNum, 0, 0}},
		{eventRow{5, 0, 1, -1, 0, 0, 0}, eventRow{5, 0, 99, -1, maxNum, 0, 0}},
		{eventRow{6, 0, 1, -1, 0, 0, 0}, eventRow{6, 0, 99, -1, maxNum, 0, 0}},
	}
}

func fitsShape(e impl.Event, shape eventShape) bool {
	for part, n := range rowOf(e) {
		if n < shape.least[part] || n > shape.most[part] {
			return false
		}
	}
	return true
}

func fitsAShape(e impl.Event) bool {
	for _, shape := range eventShapes() {
		if fitsShape(e, shape) {
			return true
		}
	}
	return false
}

// kindEvents has one right event of each kind, and of each form of one.
func kindEvents() []impl.Event {
	return []impl.Event{
		{Kind: 1, Src: 31, Piece: 42, Side: -1, N: 53},
		{Kind: 1, Src: 31, Side: 2, N: 53},
		{Kind: 2, Piece: 42, Side: -1, N: 53, Zone: 2, Bent: true},
		{Kind: 2, Piece: 42, Side: -1, N: 53, Zone: 2},
		{Kind: 2, Piece: 42, Side: -1, Zone: 1},
		{Kind: 2, Piece: 42, Side: -1, Zone: 3},
		{Kind: 2, Piece: 42, Side: -1, Zone: 4},
		{Kind: 3, Side: 2, N: 53},
		{Kind: 4, Side: 2, N: 53},
		{Kind: 5, Piece: 42, Side: -1, N: 53},
		{Kind: 6, Piece: 42, Side: -1, N: 53},
	}
}

// edgeEvents takes the edges of each part with those of all others, some of them right.
func edgeEvents() []impl.Event {
	l := []impl.Event{{}}
	for part, nums := range [][]int{
		{-1, 0, 1, 2, 3, 4, 5, 6, 7}, {-1, 0, 1, 99, 100}, {-1, 0, 1, 99, 100}, {-2, -1, 0, 1, 2, 3},
		{-1, 0, 1, 99, 100, maxNum, maxNum + 1}, {-1, 0, 1, 2, 3, 4, 5}, {0, 1},
	} {
		var more []impl.Event
		for _, e := range l {
			for _, n := range nums {
				more = append(more, withEventPart(e, part, n))
			}
		}
		l = more
	}
	return l
}

// farNums are past every part's bounds, the last ones by what a narrower number would lose.
func farNums() []int {
	return []int{math.MinInt, -maxNum - 1, -maxNum, 1000, maxNum + 1, math.MaxInt, 256, 258, 65536, 65537, 4294967296, 4294967297, 4294967298, -4294967295, -4294967294}
}

// wrongEvents says too little, or is a right event but for one part.
func wrongEvents() []impl.Event {
	l := []impl.Event{{}, {Side: -1}, {Kind: 1}, {Kind: 1, Side: -1}, {Kind: 2}, {Kind: 2, Side: -1}, {Kind: 5}, {Kind: 6}}
	for _, e := range kindEvents() {
		for part := range eventSize {
			for _, n := range append(farNums(), 0, 1, -1, -2, 2, 3, 99, 100) {
				if other := withEventPart(e, part, n); !fitsAShape(other) {
					l = append(l, other)
				}
			}
		}
	}
	return l
}

func wantNumIs(t *testing.T, name string, got int, want int, args ...any) {
	t.Helper()
	if got != want {
		t.Errorf("%s of %v is %d, want %d", name, args, got, want)
	}
}

func wantEvent(t *testing.T, name string, got impl.Event, want impl.Event) {
	t.Helper()
	if got != want {
		t.Errorf("%s is %v, want %v", name, got, want)
	}
}

func wantText(t *testing.T, e impl.Event, want string) {
	t.Helper()
	if got := impl.EventText(e); got != want {
		t.Errorf("EventText of %v is %q, want %q", e, got, want)
	}
}

func wantOks(t *testing.T, e impl.Event, part int, oks map[int]bool) {
	t.Helper()
	for n, ok := range oks {
		other := withEventPart(e, part, n)
		wantIs(t, "EventOk", impl.EventOk(other), ok, other)
	}
}

func TestEventConstants(t *testing.T) {
	for i, kind := range []int{impl.EvHurt, impl.EvMove, impl.EvGain, impl.EvLose, impl.EvPut, impl.EvCut} {
		wantNumIs(t, "the kind", kind, i+1, i)
	}
}

func TestEventOkOfEachKind(t *testing.T) {
	for _, e := range kindEvents() {
		wantIs(t, "EventOk", impl.EventOk(e), true, e)
	}
	for _, e := range wrongEvents() {
		wantIs(t, "EventOk", impl.EventOk(e), false, e)
	}
}

func TestEventOkByKind(t *testing.T) {
	for _, e := range kindEvents() {
		for _, kind := range append(farNums(), -6, -3, -2, -1, 0, 7, 8, 9, 255, 257) {
			e.Kind = kind
			wantIs(t, "EventOk", impl.EventOk(e), false, e)
		}
	}
	for kind := -2; kind <= 8; kind++ {
		wantIs(t, "EventOk of a kind alone", impl.EventOk(impl.Event{Kind: kind}), kind == 3 || kind == 4, kind)
		wantIs(t, "EventOk of a piece", impl.EventOk(impl.Event{Kind: kind, Piece: 1, Side: -1}), kind == 5 || kind == 6, kind)
		wantIs(t, "EventOk of a hurt piece", impl.EventOk(impl.Event{Kind: kind, Src: 1, Piece: 1, Side: -1}), kind == 1, kind)
		wantIs(t, "EventOk of a hurt side", impl.EventOk(impl.Event{Kind: kind, Src: 1}), kind == 1, kind)
		wantIs(t, "EventOk of a zone", impl.EventOk(impl.Event{Kind: kind, Piece: 1, Side: -1, Zone: 1}), kind == 2, kind)
	}
}

func TestEventOkOfHurt(t *testing.T) {
	ids := map[int]bool{-1: false, 0: false, 1: true, 2: true, 98: true, 99: true, 100: false}
	amounts := map[int]bool{-1: false, 0: true, 1: true, 100: true, maxNum: true, maxNum + 1: false}
	ofPiece, ofSide := impl.Event{Kind: impl.EvHurt, Src: 3, Piece: 4, Side: -1, N: 2}, impl.Event{Kind: impl.EvHurt, Src: 3, Side: 1, N: 2}
	for _, e := range []impl.Event{ofPiece, ofSide} {
		wantOks(t, e, srcPart, ids)
		wantOks(t, e, nPart, amounts)
		wantOks(t, e, zonePart, map[int]bool{-1: false, 0: true, 1: false, 2: false, 3: false, 4: false})
		wantOks(t, e, bentPart, map[int]bool{0: true, 1: false})
	}
	wantOks(t, ofPiece, piecePlace, ids)
	wantOks(t, ofPiece, sidePart, map[int]bool{-2: false, -1: true, 0: false, 1: false, 2: false, 3: false})
	wantOks(t, ofSide, piecePlace, map[int]bool{-1: false, 0: true, 1: false, 99: false, 100: false})
	wantOks(t, ofSide, sidePart, map[int]bool{-2: false, -1: false, 0: true, 1: true, 2: true, 3: false})
}

// A piece may hurt itself: nothing says that it may not.
func TestEventOkOfHurtByItself(t *testing.T) {
	wantIs(t, "EventOk of a piece that hurts itself", impl.EventOk(impl.Event{Kind: impl.EvHurt, Src: 5, Piece: 5, Side: -1, N: 1}), true)
}

func TestEventOkOfMove(t *testing.T) {
	for zone := -1; zone <= 6; zone++ {
		e := impl.Event{Kind: impl.EvMove, Piece: 4, Side: -1, Zone: zone}
		there, field := 1 <= zone && zone <= 4, zone == 2
		wantOks(t, e, nPart, map[int]bool{-1: false, 0: there, 1: field, 2: field, 98: field, 99: field, 100: false, maxNum: false, maxNum + 1: false})
		wantOks(t, e, bentPart, map[int]bool{0: there, 1: field})
		wantOks(t, e, piecePlace, map[int]bool{-1: false, 0: false, 1: there, 99: there, 100: false})
		wantOks(t, e, sidePart, map[int]bool{-2: false, -1: there, 0: false, 1: false, 2: false, 3: false})
		wantOks(t, e, srcPart, map[int]bool{-1: false, 0: there, 1: false, 99: false, 100: false})
		e.N, e.Bent = 99, true
		wantIs(t, "EventOk of 99 counters, and bent", impl.EventOk(e), field, e)
		e.N = 100
		wantIs(t, "EventOk of 100 counters, and bent", impl.EventOk(e), false, e)
	}
}

func TestEventOkOfLifeAndCounters(t *testing.T) {
	for _, kind := range []int{impl.EvGain, impl.EvLose, impl.EvPut, impl.EvCut} {
		e := impl.Event{Kind: kind, Side: 1, N: 2}
		if kind == impl.EvPut || kind == impl.EvCut {
			e.Piece, e.Side = 4, -1
			wantOks(t, e, piecePlace, map[int]bool{-1: false, 0: false, 1: true, 99: true, 100: false})
			wantOks(t, e, sidePart, map[int]bool{-2: false, -1: true, 0: false, 1: false, 2: false, 3: false})
		} else {
			wantOks(t, e, piecePlace, map[int]bool{-1: false, 0: true, 1: false, 99: false, 100: false})
			wantOks(t, e, sidePart, map[int]bool{-2: false, -1: false, 0: true, 1: true, 2: true, 3: false})
		}
		wantOks(t, e, nPart, map[int]bool{-1: false, 0: true, 1: true, 99: true, 100: true, maxNum: true, maxNum + 1: false})
		wantOks(t, e, srcPart, map[int]bool{-1: false, 0: true, 1: false, 99: false, 100: false})
		wantOks(t, e, zonePart, map[int]bool{-1: false, 0: true, 1: false, 2: false, 4: false, 5: false})
		wantOks(t, e, bentPart, map[int]bool{0: true, 1: false})
	}
}

func TestEventOkAtAllEdges(t *testing.T) {
	right := 0
	for _, e := range edgeEvents() {
		wantIs(t, "EventOk", impl.EventOk(e), fitsAShape(e), e)
		right += bitOf(fitsAShape(e))
	}
	// As many as the bounds leave, counted by hand: so that the shapes are not empty.
	hurts, moves := 2*(2+3)*5, 2*(3*2+3)
	wantNumIs(t, "how many are right", right, hurts+moves+2*3*5+2*2*5)
}

func TestTargetOfSides(t *testing.T) {
	for sides := range 6 {
		for _, s := range []impl.State{stateOf(sides), stateOf(sides, mixedPieces()...)} {
			for _, side := range append(edgeNums(), 3, 4, 5, 6, 4294967296, -4294967295) {
				want := -1
				if 0 <= side && side < sides {
					want = side
				}
				for kind := -1; kind <= 7; kind++ {
					e := impl.Event{Kind: kind, Side: side, N: 5}
					wantNumIs(t, "Target", impl.Target(s, e), want, sides, e)
				}
			}
		}
	}
	wantNumIs(t, "Target in the zero state", impl.Target(impl.State{}, impl.Event{}), -1)
}

func TestTargetOfPieces(t *testing.T) {
	s := stateOf(3, mixedPieces()...)
	for id, want := range map[int]int{2: 1, 4: 1, 12: 0, 50: 0, 60: 1, 98: 0, 99: 0, 1: -1, 3: -1, 5: -1, 97: -1, 100: -1, -1: -1, -2: -1, math.MinInt: -1, math.MaxInt: -1, 4294967298: -1} {
		for side := -2; side <= 3; side++ {
			for kind := -1; kind <= 7; kind++ {
				e := impl.Event{Kind: kind, Src: 50, Piece: id, Side: side, N: 3}
				wantNumIs(t, "Target", impl.Target(s, e), want, e)
			}
		}
	}
}

func TestTargetIsWhoHasIt(t *testing.T) {
	for owner := range 3 {
		for has := range 3 {
			for zone := 1; zone <= 4; zone++ {
				s := stateOf(3, impl.Piece{Id: 6, Owner: 1, Zone: 2}, impl.Piece{Id: 7, Owner: owner, Side: has, Zone: zone})
				wantNumIs(t, "Target", impl.Target(s, impl.Event{Kind: impl.EvCut, Piece: 7, Side: -1}), has, s)
				wantNumIs(t, "Target of no piece", impl.Target(s, impl.Event{Kind: impl.EvCut, Piece: 8, Side: -1}), -1, s)
			}
		}
	}
}

func TestTargetOfTwoOfOneId(t *testing.T) {
	a, b := impl.Piece{Id: 7, Side: 1, Zone: 2}, impl.Piece{Id: 7, Side: 0, Zone: 2}
	e := impl.Event{Kind: impl.EvPut, Piece: 7, Side: -1}
	wantNumIs(t, "Target of the first", impl.Target(stateOf(2, a, b), e), 1)
	wantNumIs(t, "Target of the first", impl.Target(stateOf(2, b, a), e), 0)
	wantNumIs(t, "Target of the first", impl.Target(stateOf(2, impl.Piece{Id: 9, Side: 0}, a, b), e), 1)
}

func TestTargetInAStateWithoutPieces(t *testing.T) {
	for _, s := range []impl.State{impl.StateNew(2), impl.StateNew(3), {}, {Ss: make([]impl.Side, 2)}, {Ps: []impl.Piece{}}} {
		for _, id := range []int{math.MinInt, -1, 1, 2, 99, 100, math.MaxInt} {
			for side := -2; side <= 3; side++ {
				wantNumIs(t, "Target", impl.Target(s, impl.Event{Kind: impl.EvMove, Piece: id, Side: side, Zone: 3}), -1, id, side)
			}
		}
	}
}

// What the state says is told, also where the state is not right: who has a
// piece may be no side, and a piece may have any Id.
func TestTargetInNoRightState(t *testing.T) {
	s := impl.State{Ps: []impl.Piece{{Id: 5, Side: 7}, {Id: 3, Side: -6}, {Id: 0, Side: 1}, {Id: -4, Side: 2}, {Id: 200, Owner: 1}}}
	for id, want := range map[int]int{5: 7, 3: -6, -4: 2, 200: 0, 4: -1} {
		wantNumIs(t, "Target", impl.Target(s, impl.Event{Piece: id, Side: 9}), want, id)
	}
	for _, side := range []int{-2, -1, 0, 9} {
		wantNumIs(t, "Target of no side, and a piece of the Id 0", impl.Target(s, impl.Event{Side: side}), 1, side)
	}
	s.Ss = make([]impl.Side, 10)
	wantNumIs(t, "Target of a side, and a piece of the Id 0", impl.Target(s, impl.Event{Side: 9}), 9)
	wantNumIs(t, "Target of a piece beside a side", impl.Target(s, impl.Event{Piece: 3, Side: 9}), -6)
}

// Promise 6.
func TestNothingHappensToWhomThereIsNot(t *testing.T) {
	for _, s := range rightStates() {
		there := idsOf(s.Ps)
		for _, kind := range []int{1, 2, 3, 4, 5, 6} {
			for id := 1; id <= 99; id++ {
				got := impl.Target(s, impl.Event{Kind: kind, Src: 1, Piece: id, Side: -1, N: 1})
				wantIs(t, "whether it happens to anybody", got != -1, timesIn(there, id) == 1, s, id)
				wantIs(t, "whether there is whom it happens to", -1 <= got && got < len(s.Ss), true, s, id, got)
			}
			for side := range 3 {
				got := impl.Target(s, impl.Event{Kind: kind, Src: 1, Side: side, N: 1})
				wantIs(t, "whether it happens to anybody", got != -1, side < len(s.Ss), s, side)
				wantIs(t, "whether it happens to this side", got == side, side < len(s.Ss), s, side)
			}
		}
	}
}

func TestSource(t *testing.T) {
	for _, s := range append(rightStates(), stateOf(2, idPieces(9, 3)...)) {
		for kind := -1; kind <= 8; kind++ {
			for _, p := range s.Ps {
				want := impl.Piece{}
				if kind == 1 {
					want = p
				}
				wantPiece(t, "Source", impl.Source(s, impl.Event{Kind: kind, Src: p.Id, Side: 1, N: 2}), want)
				wantPiece(t, "Source", impl.Source(s, impl.Event{Kind: kind, Src: p.Id, Piece: 4, Side: -1}), want)
				wantPiece(t, "Source of whom it happens to", impl.Source(s, impl.Event{Kind: kind, Src: 77, Piece: p.Id, Side: -1}), impl.Piece{})
			}
		}
	}
}

func TestSourceOfNoPiece(t *testing.T) {
	for _, s := range []impl.State{{}, impl.StateNew(2), impl.StateNew(3), stateOf(3, mixedPieces()...), stateOf(2, countPieces(8)...)} {
		for _, src := range append(edgeNums(), 97, 100, -12, 4294967298) {
			if timesIn(idsOf(s.Ps), src) == 0 {
				wantPiece(t, "Source of no piece", impl.Source(s, impl.Event{Kind: impl.EvHurt, Src: src, Piece: 12, N: 4}), impl.Piece{})
			}
		}
	}
}

func TestSourceInNoRightState(t *testing.T) {
	first, second := impl.Piece{Id: 5, Side: 7, Marks: -3}, impl.Piece{Id: 5, Side: 8, Bent: true}
	s := impl.State{Ps: []impl.Piece{{Id: 9, Zone: 8}, first, second, {Power: 4}, {Id: -2, Power: 6}}}
	for src, want := range map[int]impl.Piece{5: first, 9: s.Ps[0], 0: s.Ps[3], -2: s.Ps[4], 2: {}} {
		wantPiece(t, "Source", impl.Source(s, impl.Event{Kind: impl.EvHurt, Src: src, Side: -9, N: -1, Zone: 77, Bent: true}), want)
	}
	s.Ps[1], s.Ps[2] = second, first
	wantPiece(t, "Source of the first", impl.Source(s, impl.Event{Kind: impl.EvHurt, Src: 5}), second)
}

func TestWithN(t *testing.T) {
	for n, want := range map[int]int{
		math.MinInt: 0, -maxNum - 1: 0, -maxNum: 0, -4: 0, -1: 0, 0: 0, 1: 1, 4: 4, 99: 99, 100: 100, 4000: 4000,
		maxNum - 1: maxNum - 1, maxNum: maxNum, maxNum + 1: maxNum, 4294967296: maxNum, math.MaxInt: maxNum,
	} {
		for _, e := range append(append(kindEvents(), wrongEvents()...), impl.Event{Kind: -7, Src: -8, Piece: -9, Side: -10, N: -11, Zone: -12, Bent: true}) {
			other := e
			other.N = want
			wantEvent(t, "WithN of "+impl.NumText(n), impl.WithN(e, n), other)
		}
	}
}

func TestEventTextTable(t *testing.T) {
	for text, e := range map[string]impl.Event{
		"hurt 3 2 piece 4":            {Kind: impl.EvHurt, Src: 3, Piece: 4, Side: -1, N: 2},
		"hurt 99 2147483647 piece 98": {Kind: impl.EvHurt, Src: 99, Piece: 98, Side: -1, N: maxNum},
		"hurt 1 0 piece 1":            {Kind: impl.EvHurt, Src: 1, Piece: 1, Side: -1},
		"hurt 3 2 side 1":             {Kind: impl.EvHurt, Src: 3, Side: 1, N: 2},
		"hurt 99 2147483647 side 0":   {Kind: impl.EvHurt, Src: 99, N: maxNum},
		"hurt 10 100 side 2":          {Kind: impl.EvHurt, Src: 10, Side: 2, N: 100},
		"move 4 2 1 bent":             {Kind: impl.EvMove, Piece: 4, Side: -1, Zone: 2, N: 1, Bent: true},
		"move 4 2 1":                  {Kind: impl.EvMove, Piece: 4, Side: -1, Zone: 2, N: 1},
		"move 99 2 99 bent":           {Kind: impl.EvMove, Piece: 99, Side: -1, Zone: 2, N: 99, Bent: true},
		"move 99 2 0 bent":            {Kind: impl.EvMove, Piece: 99, Side: -1, Zone: 2, Bent: true},
		"move 5 1 0":                  {Kind: impl.EvMove, Piece: 5, Side: -1, Zone: 1},
		"move 10 3 0":                 {Kind: impl.EvMove, Piece: 10, Side: -1, Zone: 3},
		"move 90 4 0":                 {Kind: impl.EvMove, Piece: 90, Side: -1, Zone: 4},
		"gain 0 5":                    {Kind: impl.EvGain, N: 5},
		"gain 2 2147483647":           {Kind: impl.EvGain, Side: 2, N: maxNum},
		"lose 1 0":                    {Kind: impl.EvLose, Side: 1},
		"lose 2 1234567":              {Kind: impl.EvLose, Side: 2, N: 1234567},
		"put 9 5":                     {Kind: impl.EvPut, Piece: 9, Side: -1, N: 5},
		"put 99 2147483647":           {Kind: impl.EvPut, Piece: 99, Side: -1, N: maxNum},
		"cut 9 5":                     {Kind: impl.EvCut, Piece: 9, Side: -1, N: 5},
		"cut 10 1000":                 {Kind: impl.EvCut, Piece: 10, Side: -1, N: 1000},
	} {
		wantText(t, e, text)
	}
}

// textOf goes by the document's forms, with a blank that is trimmed where nothing stands behind.
func textOf(e impl.Event) string {
	bent := map[bool]string{true: "bent"}[e.Bent]
	hurt := fmt.Sprintf("hurt %d %d piece %d", e.Src, e.N, e.Piece)
	if e.Piece == 0 {
		hurt = fmt.Sprintf("hurt %d %d side %d", e.Src, e.N, e.Side)
	}
	forms := []string{
		"", hurt, fmt.Sprintf("move %d %d %d %s", e.Piece, e.Zone, e.N, bent),
		fmt.Sprintf("gain %d %d", e.Side, e.N), fmt.Sprintf("lose %d %d", e.Side, e.N),
		fmt.Sprintf("put %d %d", e.Piece, e.N), fmt.Sprintf("cut %d %d", e.Piece, e.N),
	}
	return strings.TrimSpace(forms[e.Kind])
}

func TestEventTextAtAllEdges(t *testing.T) {
	told := map[string]impl.Event{}
	for _, e := range edgeEvents() {
		if !fitsAShape(e) {
			wantText(t, e, "")
			continue
		}
		wantText(t, e, textOf(e))
		if other, ok := told[impl.EventText(e)]; ok {
			t.Errorf("%v and %v are both %q", e, other, impl.EventText(e))
		}
		told[impl.EventText(e)] = e
	}
}

func TestEventTextOfNoRightEvent(t *testing.T) {
	for _, e := range wrongEvents() {
		wantText(t, e, "")
	}
}

func TestEventsOfNoRightState(t *testing.T) {
	events := append(kindEvents(), wrongEvents()[:40]...)
	for _, s := range wrongStates() {
		for _, e := range events {
			e.Src, e.Piece = 12, 5
			target, source := -1, impl.Piece{}
			for i := len(s.Ps) - 1; i >= 0; i-- {
				if s.Ps[i].Id == 5 {
					target = s.Ps[i].Side
				}
				if s.Ps[i].Id == 12 && e.Kind == impl.EvHurt {
					source = s.Ps[i]
				}
			}
			wantNumIs(t, "Target", impl.Target(s, e), target, s, e)
			wantPiece(t, "Source", impl.Source(s, e), source)
		}
	}
}

// What lies behind a state's lists is nobody: neither a piece nor a side.
func TestEventsLookAtNoRoomBehind(t *testing.T) {
	for _, base := range []impl.State{{}, impl.StateNew(2), impl.StateNew(3), stateOf(2, idPieces(50, 60)...)} {
		s := roomyState(base)
		for _, id := range []int{1, 4, 97, 98} {
			wantNumIs(t, "Target of a piece behind", impl.Target(s, impl.Event{Piece: id, Side: -1}), -1, id)
			wantPiece(t, "Source of a piece behind", impl.Source(s, impl.Event{Kind: impl.EvHurt, Src: id}), impl.Piece{})
		}
		wantNumIs(t, "Target of a side behind", impl.Target(s, impl.Event{Side: len(base.Ss)}), -1, base)
	}
}

func TestAskingOfEventsLeavesTheState(t *testing.T) {
	for _, base := range append(rightStates(), wrongStates()...) {
		s := roomyState(base)
		before := copyState(wholeRoom(s))
		for _, e := range append(kindEvents(), impl.Event{}, impl.Event{Kind: 1, Src: 3, Piece: 12}) {
			kept := e
			target, source := impl.Target(s, e), impl.Source(s, e)
			impl.WithN(e, 8)
			impl.EventOk(e)
			impl.EventText(e)
			wantEvent(t, "what was asked for", e, kept)
			wantNumIs(t, "Target again", impl.Target(s, e), target, s, e)
			source.Marks++
			wantState(t, "what was asked in", wholeRoom(s), before)
		}
	}
}

func TestSourceSharesNoMemory(t *testing.T) {
	s := stateOf(2, mixedPieces()...)
	got := impl.Source(s, impl.Event{Kind: impl.EvHurt, Src: 12})
	spoil(s)
	wantPiece(t, "Source with its argument written over", got, fieldPiece())
}
