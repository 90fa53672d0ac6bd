package tests

import (
	"fmt"
	"math"
	"math/big"
	"slices"
	"strings"
	"testing"

	"loop.example/g00486/impl"
)

// The parts of an act ahead of its List, in the document's order.
const (
	actKind = iota
	actN
	actPiece
	actSide
	actZone
	actBent
	actSize
)

// An actRow is an act without its List as numbers, of Bent 1 or 0.
type actRow [actSize]int

func actRowOf(a impl.Act) actRow {
	return actRow{a.Kind, a.N, a.Piece, a.Side, a.Zone, bitOf(a.Bent)}
}

func (row actRow) act(list ...impl.Event) impl.Act {
	return impl.Act{Kind: row[0], N: row[1], Piece: row[2], Side: row[3], Zone: row[4], Bent: row[5] != 0, List: list}
}

func withActPart(a impl.Act, part int, n int) impl.Act {
	row := actRowOf(a)
	row[part] = n
	return row.act(a.List...)
}

func withList(a impl.Act, l ...impl.Event) impl.Act {
	a.List = l
	return a
}

func partsAct(l ...impl.Event) impl.Act {
	return impl.Act{Kind: impl.AcParts, Side: -1, List: l}
}

// An actShape has the least and the greatest of each part, in the order of an
// actRow, and the most of a List (one at least, where it may have any).
type actShape struct {
	least, most actRow
	parts       int
}

func actShapes() []actShape {
	return []actShape{
		{actRow{1, 0, 0, -1, 0, 0}, actRow{1, 0, 0, -1, 0, 0}, 0},
		{actRow{2, 0, 0, -1, 0, 0}, actRow{2, 0, 0, -1, 0, 0}, 0},
		{actRow{3, 1, 0, -1, 0, 0}, actRow{3, maxNum, 0, -1, 0, 0}, 0},
		{actRow{4, 0, 0, -1, 0, 0}, actRow{4, 0, 0, -1, 0, 0}, 0},
		{actRow{5, 0, 0, -1, 0, 0}, actRow{5, 0, 0, -1, 0, 0}, 0},
		{actRow{6, 0, 1, -1, 0, 0}, actRow{6, 0, 99, -1, 0, 0}, 0},
		{actRow{6, 0, 0, 0, 0, 0}, actRow{6, 0, 0, 2, 0, 0}, 0},
		{actRow{7, 0, 0, -1, 1, 0}, actRow{7, 0, 0, -1, 4, 0}, 0},
		{actRow{8, 0, 0, -1, 0, 0}, actRow{8, 99, 0, -1, 0, 1}, 0},
		{actRow{9, 0, 0, -1, 0, 0}, actRow{9, 0, 0, -1, 0, 0}, 3},
	}
}

func fitsActShape(a impl.Act, shape actShape) bool {
	for part, n := range actRowOf(a) {
		if n < shape.least[part] || n > shape.most[part] {
			return false
		}
	}
	return min(1, shape.parts) <= len(a.List) && len(a.List) <= shape.parts
}

// partIsRight goes by the document's words: it is right as it is, or would be
// with another amount in the place of -1, and is no move then.
func partIsRight(e impl.Event) bool {
	return fitsAShape(e) || e.N == -1 && e.Kind != 2 && fitsAShape(withEventPart(e, nPart, 77))
}

func actIsRight(a impl.Act) bool {
	for _, e := range a.List {
		if !partIsRight(e) {
			return false
		}
	}
	return slices.ContainsFunc(actShapes(), func(shape actShape) bool { return fitsActShape(a, shape) })
}

// openParts has one part of each kind that may take another's amount.
func openParts() []impl.Event {
	return []impl.Event{
		{Kind: 1, Src: 31, Piece: 42, Side: -1, N: -1},
		{Kind: 1, Src: 31, Side: 2, N: -1},
		{Kind: 3, Side: 2, N: -1},
		{Kind: 4, Side: 1, N: -1},
		{Kind: 5, Piece: 42, Side: -1, N: -1},
		{Kind: 6, Piece: 42, Side: -1, N: -1},
	}
}

func rightParts() []impl.Event {
	return append(kindEvents(), openParts()...)
}

func wrongParts() []impl.Event {
	var l []impl.Event
	for _, e := range wrongEvents() {
		if !partIsRight(e) {
			l = append(l, e)
		}
	}
	for _, e := range openParts() {
		for part := range eventSize {
			for _, n := range append(farNums(), 0, 1, -1, -2, 2, 3, 99, 100) {
				if other := withEventPart(e, part, n); !partIsRight(other) {
					l = append(l, other)
				}
			}
		}
	}
	return l
}

// bareActs has one right act of each kind without a List, and of each form of one.
func bareActs() []impl.Act {
	return []impl.Act{
		{Kind: 1, Side: -1}, {Kind: 2, Side: -1}, {Kind: 3, N: 53, Side: -1}, {Kind: 4, Side: -1}, {Kind: 5, Side: -1},
		{Kind: 6, Piece: 42, Side: -1}, {Kind: 6, Side: 2}, {Kind: 6}, {Kind: 7, Side: -1, Zone: 2}, {Kind: 7, Side: -1, Zone: 3},
		{Kind: 8, N: 53, Side: -1, Bent: true}, {Kind: 8, N: 53, Side: -1}, {Kind: 8, Side: -1, Bent: true}, {Kind: 8, Side: -1},
	}
}

// rightActs are made new by each call, so that a test may write into their lists.
func rightActs() []impl.Act {
	l := append(bareActs(), partsAct(rightParts()[:3]...), partsAct(openParts()[:2]...))
	for _, e := range rightParts() {
		l = append(l, partsAct(e), partsAct(openParts()[1], e), partsAct(e, kindEvents()[7], e))
	}
	for _, n := range []int{1, 2, 3, 99, 100, maxNum / 2, maxNum - 1, maxNum} {
		l = append(l, impl.Act{Kind: 3, N: n, Side: -1})
	}
	return l
}

// wrongActs are right ones but for one part, or have a List that is none of theirs.
func wrongActs() []impl.Act {
	l := []impl.Act{{}, {Side: -1}, {Kind: 9}, {Kind: 9, Side: -1}, partsAct(), partsAct(rightParts()[:4]...), partsAct(kindEvents()...)}
	for _, a := range append(bareActs(), partsAct(openParts()[:2]...)) {
		for part := range actSize {
			for _, n := range append(farNums(), 0, 1, -1, -2, 2, 3, 4, 5, 10, 99, 100) {
				if other := withActPart(a, part, n); !actIsRight(other) {
					l = append(l, other)
				}
			}
		}
		for _, e := range []impl.Event{{}, kindEvents()[0], openParts()[0]} {
			if other := withList(a, e); !actIsRight(other) {
				l = append(l, other)
			}
		}
	}
	for _, e := range wrongParts() {
		l = append(l, partsAct(e))
	}
	return l
}

// edgeActs takes the edges of each part with those of all others, and with three
// lists, some of them right.
func edgeActs() []impl.Act {
	l := []impl.Act{{}}
	for part, nums := range [][]int{
		{-1, 0, 1, 2, 3, 4, 5, 6, 7, 8, 9, 10}, {-1, 0, 1, 99, 100, maxNum, maxNum + 1}, {-1, 0, 1, 99, 100}, {-2, -1, 0, 1, 2, 3}, {-1, 0, 1, 4, 5}, {0, 1},
	} {
		var more []impl.Act
		for _, a := range l {
			for _, n := range nums {
				more = append(more, withActPart(a, part, n))
			}
		}
		l = more
	}
	for _, a := range slices.Clone(l) {
		l = append(l, withList(a, openParts()[:3]...), withList(a, openParts()[:4]...))
	}
	return l
}

func copyAct(a impl.Act) impl.Act {
	a.List = slices.Clone(a.List)
	return a
}

// roomyAct has room behind its List, which has events that would show.
func roomyAct(a impl.Act) impl.Act {
	room := append(slices.Clone(a.List), impl.Event{Kind: 3, Side: 1, N: -1}, impl.Event{}, impl.Event{Kind: 77, N: 77}, impl.Event{Kind: 4, N: 9})
	a.List = room[:len(a.List)]
	return a
}

func wholeList(a impl.Act) impl.Act {
	a.List = a.List[:cap(a.List)]
	return a
}

func spoilEvents(l []impl.Event) {
	for i := range l[:cap(l)] {
		e := &l[:cap(l)][i]
		*e = impl.Event{Kind: ^e.Kind, Src: -5, N: ^e.N, Zone: -6, Bent: !e.Bent}
	}
}

func wantActOk(t *testing.T, a impl.Act, want bool) {
	t.Helper()
	wantIs(t, "ActOk", impl.ActOk(a), want, a)
}

func wantActOks(t *testing.T, a impl.Act, part int, oks map[int]bool) {
	t.Helper()
	for n, ok := range oks {
		wantActOk(t, withActPart(a, part, n), ok)
	}
}

func wantActText(t *testing.T, a impl.Act, want string) {
	t.Helper()
	if got := impl.ActText(a); got != want {
		t.Errorf("ActText of %v is %q, want %q", a, got, want)
	}
}

func wantEvents(t *testing.T, name string, got []impl.Event, want []impl.Event, args ...any) {
	t.Helper()
	if !slices.Equal(got, want) {
		t.Errorf("%s of %v is %v, want %v", name, args, got, want)
	}
}

func wantAct(t *testing.T, name string, got impl.Act, want impl.Act) {
	t.Helper()
	if actRowOf(got) != actRowOf(want) || !slices.Equal(got.List, want.List) {
		t.Errorf("%s is %v, want %v", name, got, want)
	}
}

func TestActConstants(t *testing.T) {
	for i, kind := range []int{impl.AcStop, impl.AcShield, impl.AcMore, impl.AcTwice, impl.AcHalf, impl.AcTurn, impl.AcZone, impl.AcEnter, impl.AcParts} {
		wantNumIs(t, "the kind", kind, i+1, i)
	}
	wantNumIs(t, "MaxParts", impl.MaxParts, 3)
}

func TestActOkOfEachKind(t *testing.T) {
	for _, a := range rightActs() {
		wantActOk(t, a, true)
	}
	for _, a := range wrongActs() {
		wantActOk(t, a, false)
	}
}

func TestActOkOfMore(t *testing.T) {
	a := impl.Act{Kind: impl.AcMore, N: 4, Side: -1}
	wantActOks(t, a, actN, map[int]bool{math.MinInt: false, -maxNum: false, -1: false, 0: false, 1: true, 2: true, 99: true, 100: true, maxNum - 1: true, maxNum: true, maxNum + 1: false, 4294967297: false, math.MaxInt: false})
	wantNoneBeside(t, a, actN)
}

func TestActOkOfTurn(t *testing.T) {
	toPiece := impl.Act{Kind: impl.AcTurn, Piece: 4, Side: -1}
	toSide := impl.Act{Kind: impl.AcTurn, Side: 1}
	wantActOks(t, toPiece, actPiece, map[int]bool{-1: false, 0: false, 1: true, 2: true, 98: true, 99: true, 100: false, 4294967297: false})
	wantActOks(t, toSide, actSide, map[int]bool{math.MinInt: false, -2: false, -1: false, 0: true, 1: true, 2: true, 3: false, 4294967296: false})
	wantActOks(t, toPiece, actSide, map[int]bool{-2: false, -1: true, 0: false, 1: false, 2: false, 3: false})
	wantActOks(t, toSide, actPiece, map[int]bool{-1: false, 0: true, 1: false, 99: false, 100: false})
	wantNoneBeside(t, toPiece, actPiece, actSide)
	wantNoneBeside(t, toSide, actPiece, actSide)
}

func TestActOkOfZone(t *testing.T) {
	a := impl.Act{Kind: impl.AcZone, Side: -1, Zone: impl.ZnYard}
	wantActOks(t, a, actZone, map[int]bool{math.MinInt: false, -1: false, 0: false, impl.ZnHand: true, impl.ZnField: true, impl.ZnYard: true, impl.ZnGone: true, impl.ZnGone + 1: false, 258: false})
	wantNoneBeside(t, a, actZone)
}

func TestActOkOfEnter(t *testing.T) {
	for _, bent := range []bool{false, true} {
		a := impl.Act{Kind: impl.AcEnter, N: 4, Side: -1, Bent: bent}
		wantActOks(t, a, actN, map[int]bool{math.MinInt: false, -1: false, 0: true, 1: true, 98: true, 99: true, 100: false, maxNum: false, 4294967296: false})
		wantNoneBeside(t, a, actN, actBent)
	}
}

func TestActOkOfKindsThatNameNothing(t *testing.T) {
	for _, kind := range []int{impl.AcStop, impl.AcShield, impl.AcTwice, impl.AcHalf} {
		wantActOk(t, impl.Act{Kind: kind, Side: -1}, true)
		wantActOk(t, impl.Act{Kind: kind, Side: -1, List: []impl.Event{}}, true)
		wantActOk(t, impl.Act{Kind: kind}, false)
		wantNoneBeside(t, impl.Act{Kind: kind, Side: -1})
	}
}

// wantNoneBeside wants the right act to be right no more, when any part is
// named that is not among the own ones.
func wantNoneBeside(t *testing.T, a impl.Act, own ...int) {
	t.Helper()
	wantActOk(t, a, true)
	for part := actN; part < actSize; part++ {
		if slices.Contains(own, part) {
			continue
		}
		for _, n := range []int{-2, -1, 0, 1, 2, 3, 4, 99, maxNum} {
			if other := withActPart(a, part, n); actRowOf(other) != actRowOf(a) {
				wantActOk(t, other, false)
			}
		}
	}
	for _, e := range append(rightParts(), impl.Event{}, impl.Event{Side: -1}) {
		wantActOk(t, withList(a, e), false)
		wantActOk(t, withList(a, e, e, e), false)
	}
}

func TestActOkOfPartsLooksAtItsListAlone(t *testing.T) {
	for part := actN; part < actSize; part++ {
		a := partsAct(rightParts()[:2]...)
		for _, n := range []int{-2, -1, 0, 1, 2, 3, 99, maxNum} {
			other := withActPart(a, part, n)
			wantActOk(t, other, actRowOf(other) == actRowOf(a))
		}
	}
}

func TestActOkOfKindsThatThereAreNot(t *testing.T) {
	for _, a := range rightActs() {
		for _, kind := range append(farNums(), -9, -3, -2, -1, 0, 10, 11, 12, 257, 265, 4294967305) {
			a.Kind = kind
			wantActOk(t, a, false)
			wantActText(t, a, "")
		}
	}
}

func TestActOkByHowManyParts(t *testing.T) {
	for _, e := range rightParts() {
		for count := range 12 {
			wantActOk(t, partsAct(slices.Repeat([]impl.Event{e}, count)...), 1 <= count && count <= impl.MaxParts)
		}
	}
	wantActOk(t, impl.Act{Kind: impl.AcParts, Side: -1, List: []impl.Event{}}, false)
	wantActOk(t, impl.Act{Kind: impl.AcParts, Side: -1}, false)
}

// One part that is not right is enough, wherever it stands.
func TestActOkByEachPart(t *testing.T) {
	good := openParts()[2]
	for _, bad := range wrongParts() {
		wantActOk(t, partsAct(bad), false)
		wantActOk(t, partsAct(bad, good), false)
		wantActOk(t, partsAct(good, bad), false)
		wantActOk(t, partsAct(bad, good, good), false)
		wantActOk(t, partsAct(good, bad, good), false)
		wantActOk(t, partsAct(good, good, bad), false)
	}
	for _, e := range rightParts() {
		wantActOk(t, partsAct(e, good, e), true)
		wantActOk(t, partsAct(good, e), true)
	}
}

func TestActOkOfPartsByTheirN(t *testing.T) {
	for _, e := range kindEvents() {
		field, move := e.Zone == 2, e.Kind == 2
		for n, ok := range map[int]bool{
			math.MinInt: false, -maxNum: false, -3: false, -2: false, -1: !move, 0: true, 1: !move || field, 99: !move || field,
			100: !move, maxNum: !move, maxNum + 1: false, 4294967295: false, math.MaxInt: false,
		} {
			wantActOk(t, partsAct(withEventPart(e, nPart, n)), ok)
		}
	}
}

// What takes another's amount must be right but for that.
func TestActOkOfOpenPartsThatAreNotRightOtherwise(t *testing.T) {
	for _, e := range []impl.Event{
		{N: -1}, {N: -1, Side: -1}, {Kind: 7, N: -1}, {Kind: -1, N: -1}, {Kind: 7, Side: -1, Piece: 1, N: -1},
		{Kind: 1, Piece: 42, Side: -1, N: -1}, {Kind: 1, Src: 100, Side: 2, N: -1}, {Kind: 1, Src: 31, Piece: 42, N: -1}, {Kind: 1, Src: 31, Side: -1, N: -1},
		{Kind: 1, Src: 31, Side: 3, N: -1}, {Kind: 1, Src: 31, Side: 2, N: -1, Zone: 1}, {Kind: 1, Src: 31, Side: 2, N: -1, Bent: true},
		{Kind: 2, Piece: 42, Side: -1, N: -1, Zone: 2}, {Kind: 2, Piece: 42, Side: -1, N: -1, Zone: 2, Bent: true}, {Kind: 2, Piece: 42, Side: -1, N: -1, Zone: 1},
		{Kind: 3, Side: 3, N: -1}, {Kind: 3, Side: -1, N: -1}, {Kind: 3, Piece: 1, Side: 1, N: -1}, {Kind: 4, Side: 3, N: -1}, {Kind: 4, Src: 1, Side: 1, N: -1},
		{Kind: 5, Side: -1, N: -1}, {Kind: 5, Piece: 42, N: -1}, {Kind: 5, Piece: 100, Side: -1, N: -1}, {Kind: 6, Piece: 42, Side: -1, N: -1, Zone: 2}, {Kind: 6, Piece: -1, Side: -1, N: -1},
	} {
		wantActOk(t, partsAct(e), false)
		wantActText(t, partsAct(e), "")
	}
}

func TestActOkAtAllEdges(t *testing.T) {
	right := 0
	for _, a := range edgeActs() {
		want := actIsRight(a)
		wantActOk(t, a, want)
		right += bitOf(want)
	}
	// As many as the bounds leave, counted by hand: so that the shapes are not empty.
	nothing, more, turns, zones, enters, parts := 4, 4, 2+3, 2, 3*2, 1
	wantNumIs(t, "how many are right", right, nothing+more+turns+zones+enters+parts)
}

// fittingKinds has, for each kind of act, the kinds of things that it may be done to.
func fittingKinds() [10][]int {
	all, amounts, hurt, move := []int{1, 2, 3, 4, 5, 6}, []int{1, 3, 4, 5, 6}, []int{1}, []int{2}
	return [10][]int{1: all, 2: hurt, 3: amounts, 4: amounts, 5: amounts, 6: hurt, 7: move, 8: move, 9: all}
}

func TestActFits(t *testing.T) {
	for kind, fitting := range fittingKinds() {
		for _, of := range append(farNums(), -6, -2, -1, 0, 1, 2, 3, 4, 5, 6, impl.EvCut+1, 8, 9, 10, 257) {
			wantIs(t, "ActFits", impl.ActFits(impl.Act{Kind: kind, Side: -1}, of), slices.Contains(fitting, of), kind, of)
		}
	}
}

func TestActFitsOfRightActs(t *testing.T) {
	for _, a := range rightActs() {
		wantActOk(t, a, true)
		for of := -2; of <= 9; of++ {
			wantIs(t, "ActFits", impl.ActFits(a, of), slices.Contains(fittingKinds()[a.Kind], of), a, of)
		}
	}
}

func TestActFitsOfKindsThatThereAreNot(t *testing.T) {
	for _, kind := range append(farNums(), -9, -2, -1, 0, 10, 11, 257, 265) {
		for _, a := range rightActs() {
			a.Kind = kind
			for of := -2; of <= 9; of++ {
				wantIs(t, "ActFits", impl.ActFits(a, of), false, a, of)
			}
		}
	}
}

// Only its kind says what an act may be done to, also where it is not right.
func TestActFitsOfNoRightActs(t *testing.T) {
	for _, a := range wrongActs() {
		if a.Kind < 1 || a.Kind > 9 {
			continue
		}
		for of := 0; of <= 7; of++ {
			wantIs(t, "ActFits", impl.ActFits(a, of), slices.Contains(fittingKinds()[a.Kind], of), a, of)
		}
	}
}

func TestAmountTable(t *testing.T) {
	for _, x := range [][4]int{
		{impl.AcStop, 0, 0, 0}, {impl.AcStop, 0, 5, 0}, {impl.AcStop, 0, maxNum + 1, 0}, {impl.AcStop, 7, 5, 0}, {impl.AcStop, 0, -5, 0},
		{impl.AcMore, 2, 0, 2}, {impl.AcMore, 2, 5, 7}, {impl.AcMore, 1, maxNum - 1, maxNum}, {impl.AcMore, 2, maxNum - 1, maxNum}, {impl.AcMore, 1, maxNum, maxNum},
		{impl.AcMore, maxNum, 0, maxNum}, {impl.AcMore, maxNum, maxNum, maxNum}, {impl.AcMore, 2, -5, 2}, {impl.AcMore, 2, math.MinInt, 2}, {impl.AcMore, 2, math.MaxInt, maxNum},
		{impl.AcTwice, 0, 0, 0}, {impl.AcTwice, 0, 1, 2}, {impl.AcTwice, 0, 5, 10}, {impl.AcTwice, 0, maxNum / 2, maxNum - 1}, {impl.AcTwice, 0, maxNum/2 + 1, maxNum},
		{impl.AcTwice, 0, maxNum, maxNum}, {impl.AcTwice, 0, -5, 0}, {impl.AcTwice, 3, 5, 10}, {impl.AcTwice, 0, math.MinInt, 0}, {impl.AcTwice, 0, math.MaxInt, maxNum},
		{impl.AcHalf, 0, 0, 0}, {impl.AcHalf, 0, 1, 0}, {impl.AcHalf, 0, 2, 1}, {impl.AcHalf, 0, 5, 2}, {impl.AcHalf, 0, maxNum, maxNum / 2}, {impl.AcHalf, 0, maxNum + 1, maxNum / 2},
		{impl.AcHalf, 0, -5, 0}, {impl.AcHalf, 3, 5, 2}, {impl.AcHalf, 0, math.MinInt, 0}, {impl.AcHalf, 0, math.MaxInt, maxNum / 2},
		{impl.AcShield, 0, 5, 5}, {impl.AcTurn, 0, 5, 5}, {impl.AcZone, 0, 5, 5}, {impl.AcEnter, 4, 5, 5}, {impl.AcParts, 0, 5, 5}, {0, 0, 5, 5}, {10, 4, 5, 5}, {-3, 4, 5, 5},
		{impl.AcShield, 0, -5, 0}, {impl.AcTurn, 0, maxNum + 1, maxNum}, {impl.AcZone, 0, math.MinInt, 0}, {impl.AcEnter, 4, math.MaxInt, maxNum}, {impl.AcParts, 0, -1, 0}, {0, 0, -1, 0}, {10, 0, maxNum + 1, maxNum},
		{impl.AcMore, -2, 5, 3}, {impl.AcMore, -7, 5, -2}, {impl.AcMore, 0, 5, 5}, {impl.AcMore, math.MinInt, 5, 5 - maxNum}, {impl.AcMore, math.MaxInt, 5, maxNum}, {impl.AcMore, math.MinInt, 0, -maxNum},
	} {
		a := impl.Act{Kind: x[0], N: x[1]}
		wantNumIs(t, "Amount", impl.Amount(a, x[2]), x[3], a, x[2])
	}
}

// amountAs goes by the document's words, without a width that sums could pass.
func amountAs(a impl.Act, n int) *big.Int {
	amount := bigOf(max(0, n))
	switch a.Kind {
	case 1:
		return big.NewInt(0)
	case 3:
		return bigBound(new(big.Int).Add(amount, bigOf(a.N)))
	case 4:
		return bigBound(new(big.Int).Lsh(amount, 1))
	case 5:
		return new(big.Int).Rsh(amount, 1)
	}
	return amount
}

func TestAmountAsTheDocumentSays(t *testing.T) {
	for kind := -2; kind <= 12; kind++ {
		for _, more := range edgeNums() {
			for _, n := range edgeNums() {
				a := impl.Act{Kind: kind, N: more, Side: -1}
				wantBig(t, "Amount", impl.Amount(a, n), amountAs(a, n), kind, more, n)
			}
		}
	}
	for _, a := range append(rightActs(), wrongActs()...) {
		for _, n := range []int{math.MinInt, -1, 0, 1, 9, maxNum, maxNum + 1, math.MaxInt} {
			wantBig(t, "Amount", impl.Amount(a, n), amountAs(a, n), a.Kind, a.N, n)
		}
	}
}

// Promise 9.
func TestMoreIsNeverLess(t *testing.T) {
	grown, full := 0, 0
	for _, by := range append(edgeNums(), 4, 5, 6, 1000, 65536) {
		a := impl.Act{Kind: impl.AcMore, N: by, Side: -1}
		if !impl.ActOk(a) {
			continue
		}
		for _, n := range append(edgeNums(), maxNum-by-1, maxNum-by, maxNum-by+1) {
			was, is := impl.Upto(n, maxNum), impl.Amount(a, n)
			wantIs(t, "whether it is more, or both are the most,", is > was || is == maxNum && was == maxNum, true, by, n, was, is)
			wantIs(t, "whether there may be as much", is <= maxNum, true, by, n, is)
			grown, full = grown+bitOf(is > was), full+bitOf(was == maxNum)
		}
	}
	wantIs(t, "whether many grew, and many were full", grown > 100 && full > 20, true, grown, full)
}

// Promise 9: half of twice an amount is what it was.
func TestHalfOfTwiceIsWhatItWas(t *testing.T) {
	twice, half := impl.Act{Kind: impl.AcTwice, Side: -1}, impl.Act{Kind: impl.AcHalf, Side: -1}
	nums := append(edgeNums(), maxNum/2-1, maxNum/2+2)
	for n := range 2000 {
		nums = append(nums, n-20, n*1073741, maxNum/2-n)
	}
	back := 0
	for _, n := range nums {
		most := impl.Amount(twice, n)
		wantIs(t, "whether twice is not less", most >= impl.Upto(n, maxNum), true, n, most)
		if most == maxNum {
			continue
		}
		wantNumIs(t, "half of twice", impl.Amount(half, most), impl.Upto(n, maxNum), n)
		back++
	}
	wantIs(t, "whether many came back", back > 1000, true, back)
}

// partsAs goes by the document's words.
func partsAs(a impl.Act, n int) []impl.Event {
	if a.Kind != 9 {
		return nil
	}
	var l []impl.Event
	for _, e := range a.List {
		if e.N == -1 {
			e.N = min(max(0, n), maxNum)
		}
		l = append(l, e)
	}
	return l
}

func thingsOfN() []impl.Event {
	var l []impl.Event
	for _, n := range append(edgeNums(), 53, 54) {
		l = append(l, impl.Event{Kind: 1, Src: 8, Side: 1, N: n}, impl.Event{Kind: 2, Piece: 8, Side: -1, N: n, Zone: 2, Bent: true}, impl.Event{N: n}, impl.Event{Kind: 99, Src: -1, N: n})
	}
	return l
}

func TestPartsTable(t *testing.T) {
	gain, lose, put := impl.Event{Kind: impl.EvGain, Side: 2, N: -1}, impl.Event{Kind: impl.EvLose, Side: 1, N: 3}, impl.Event{Kind: impl.EvPut, Piece: 7, Side: -1, N: -1}
	e := impl.Event{Kind: impl.EvHurt, Src: 4, Side: 1, N: 9}
	gain9, put9 := impl.WithN(gain, 9), impl.WithN(put, 9)
	for _, x := range []struct{ list, want []impl.Event }{
		{nil, nil}, {[]impl.Event{}, nil},
		{[]impl.Event{lose}, []impl.Event{lose}}, {[]impl.Event{lose, lose, lose}, []impl.Event{lose, lose, lose}},
		{[]impl.Event{gain}, []impl.Event{gain9}}, {[]impl.Event{gain, lose}, []impl.Event{gain9, lose}}, {[]impl.Event{lose, gain}, []impl.Event{lose, gain9}},
		{[]impl.Event{lose, gain, lose}, []impl.Event{lose, gain9, lose}}, {[]impl.Event{gain, gain, put}, []impl.Event{gain9, gain9, put9}},
		{[]impl.Event{put, lose, gain}, []impl.Event{put9, lose, gain9}},
	} {
		wantEvents(t, "Parts", impl.Parts(partsAct(x.list...), e), x.want, x.list)
	}
}

func TestPartsByTheN(t *testing.T) {
	l := openParts()
	for n, want := range map[int]int{math.MinInt: 0, -maxNum: 0, -2: 0, -1: 0, 0: 0, 1: 1, 9: 9, 100: 100, maxNum - 1: maxNum - 1, maxNum: maxNum, maxNum + 1: maxNum, 4294967296: maxNum, math.MaxInt: maxNum} {
		got := impl.Parts(partsAct(l...), impl.Event{Kind: 3, N: n})
		wantNumIs(t, "how many parts", len(got), len(l), n)
		for i, e := range got {
			wantEvent(t, "the part", e, withEventPart(l[i], nPart, want))
		}
	}
}

func TestPartsOfOtherKinds(t *testing.T) {
	for _, kind := range append(farNums(), -9, -1, 0, 1, 2, 3, 4, 5, 6, 7, 8, 10, 11, 265, 4294967305) {
		for _, a := range append(rightActs(), impl.Act{List: openParts()}, impl.Act{Side: -1, List: kindEvents()}) {
			a.Kind = kind
			for _, e := range kindEvents() {
				wantEvents(t, "Parts of another kind", impl.Parts(a, e), nil, a, e)
			}
		}
	}
}

// It answers of acts and of things that are not right as well; of a part that is
// not right the N of -1 is taken for another all the same.
func TestPartsAsTheDocumentSays(t *testing.T) {
	acts := append(rightActs(), wrongActs()...)
	acts = append(acts, partsAct(wrongEvents()...), partsAct(edgeEvents()[:400]...), impl.Act{Kind: 9, N: -1, Zone: 8, Bent: true, List: rightParts()})
	for _, a := range acts {
		for _, e := range thingsOfN() {
			wantEvents(t, "Parts", impl.Parts(a, e), partsAs(a, e.N), a, e)
		}
	}
}

// What comes of a right act is right, whatever it was done to.
func TestPartsOfRightActsAreRight(t *testing.T) {
	count := 0
	for _, a := range rightActs() {
		for _, e := range thingsOfN() {
			for _, part := range impl.Parts(a, e) {
				wantIs(t, "EventOk of the part", impl.EventOk(part), true, a, e, part)
				count++
			}
		}
	}
	wantIs(t, "whether there were many", count > 1000, true, count)
}

func TestActTextTable(t *testing.T) {
	open := openParts()
	for text, a := range map[string]impl.Act{
		"stop":            {Kind: impl.AcStop, Side: -1},
		"shield":          {Kind: impl.AcShield, Side: -1},
		"more 1":          {Kind: impl.AcMore, N: 1, Side: -1},
		"more 20":         {Kind: impl.AcMore, N: 20, Side: -1},
		"more 2147483647": {Kind: impl.AcMore, N: maxNum, Side: -1},
		"twice":           {Kind: impl.AcTwice, Side: -1},
		"half":            {Kind: impl.AcHalf, Side: -1},
		"turn piece 1":    {Kind: impl.AcTurn, Piece: 1, Side: -1},
		"turn piece 99":   {Kind: impl.AcTurn, Piece: 99, Side: -1},
		"turn side 0":     {Kind: impl.AcTurn},
		"turn side 2":     {Kind: impl.AcTurn, Side: 2},
		"zone 1":          {Kind: impl.AcZone, Side: -1, Zone: impl.ZnHand},
		"zone 2":          {Kind: impl.AcZone, Side: -1, Zone: impl.ZnField},
		"zone 3":          {Kind: impl.AcZone, Side: -1, Zone: impl.ZnYard},
		"zone 4":          {Kind: impl.AcZone, Side: -1, Zone: impl.ZnGone},
		"enter 0":         {Kind: impl.AcEnter, Side: -1},
		"enter 0 bent":    {Kind: impl.AcEnter, Side: -1, Bent: true},
		"enter 99":        {Kind: impl.AcEnter, N: 99, Side: -1},
		"enter 99 bent":   {Kind: impl.AcEnter, N: 99, Side: -1, Bent: true},
		"parts 1":         partsAct(open[0]),
		"parts 2":         partsAct(open[1], open[0]),
		"parts 3":         partsAct(open[1], open[2], open[3]),
	} {
		wantActText(t, a, text)
	}
	wantActText(t, impl.Act{Kind: impl.AcHalf, Side: -1, List: []impl.Event{}}, "half")
}

// actTextOf goes by the document's forms, with a blank that is trimmed where nothing stands behind.
func actTextOf(a impl.Act) string {
	bent := map[bool]string{true: "bent"}[a.Bent]
	turn := fmt.Sprintf("turn piece %d", a.Piece)
	if a.Side >= 0 {
		turn = fmt.Sprintf("turn side %d", a.Side)
	}
	forms := []string{
		"", "stop", "shield", fmt.Sprintf("more %d", a.N), "twice", "half", turn,
		fmt.Sprintf("zone %d", a.Zone), fmt.Sprintf("enter %d %s", a.N, bent), fmt.Sprintf("parts %d", len(a.List)),
	}
	return strings.TrimSpace(forms[a.Kind])
}

func TestActTextAtAllEdges(t *testing.T) {
	told := map[string]impl.Act{}
	for _, a := range edgeActs() {
		if !actIsRight(a) {
			wantActText(t, a, "")
			continue
		}
		wantActText(t, a, actTextOf(a))
		if other, ok := told[impl.ActText(a)]; ok {
			t.Errorf("%v and %v are both %q", a, other, impl.ActText(a))
		}
		told[impl.ActText(a)] = a
	}
	for _, a := range rightActs() {
		wantActText(t, a, actTextOf(a))
	}
}

func TestActTextOfNoRightAct(t *testing.T) {
	for _, a := range wrongActs() {
		wantActText(t, a, "")
	}
}

// What lies behind a List is no part.
func TestActsLookAtNoRoomBehind(t *testing.T) {
	for _, base := range append(append(rightActs(), wrongActs()...), partsAct(), partsAct(wrongParts()[0])) {
		a := roomyAct(base)
		wantActOk(t, a, actIsRight(base))
		wantActText(t, a, impl.ActText(base))
		wantEvents(t, "Parts, with room behind", impl.Parts(a, impl.Event{N: 4}), partsAs(base, 4), base)
	}
}

func TestAskingOfActsLeavesTheArguments(t *testing.T) {
	e := impl.Event{Kind: impl.EvHurt, Src: 5, Side: 1, N: 9}
	kept := e
	for _, base := range append(rightActs(), wrongActs()...) {
		a := roomyAct(base)
		before := copyAct(wholeList(a))
		impl.ActOk(a)
		impl.ActText(a)
		for of := 0; of <= 7; of++ {
			impl.ActFits(a, of)
		}
		for _, n := range []int{-4, 0, 4, maxNum + 1} {
			impl.Amount(a, n)
			impl.Parts(a, impl.WithN(e, n))
		}
		impl.Parts(a, e)
		wantAct(t, "what was asked of", wholeList(a), before)
		wantEvent(t, "what it was done to", e, kept)
	}
}

func TestPartsShareNoMemory(t *testing.T) {
	for _, base := range append(rightActs(), wrongActs()...) {
		for _, n := range []int{-4, 0, 4, maxNum + 1} {
			a := roomyAct(base)
			before := copyAct(wholeList(a))
			got := impl.Parts(a, impl.Event{N: n})
			spoilEvents(got)
			wantAct(t, "the act, the answer written over,", wholeList(a), before)
			got = impl.Parts(a, impl.Event{N: n})
			spoilEvents(a.List)
			wantEvents(t, "Parts with its argument written over", got, partsAs(base, n), base, n)
		}
	}
}

// Each answer has memory of its own.
func TestPartsOfOneActShareNoMemory(t *testing.T) {
	a := partsAct(openParts()[:3]...)
	first, second := impl.Parts(a, impl.Event{N: 4}), impl.Parts(a, impl.Event{N: 5})
	spoilEvents(first)
	wantEvents(t, "Parts with an earlier answer written over", second, partsAs(a, 5), a)
}
