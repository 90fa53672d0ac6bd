package tests

import (
	"math"
	"math/big"
	"slices"
	"testing"

	"loop.example/g00486/impl"
)

// The parts of an effect that are numbers, in the document's order.
const (
	effId = iota
	effSide
	effSrc
	effClass
	effUntil
	effLeft
	effSize
)

type effRow [effSize]int

func effRowOf(e impl.Effect) effRow {
	return effRow{e.Id, e.Side, e.Src, e.Class, e.Until, e.Left}
}

func withEffPart(e impl.Effect, part int, n int) impl.Effect {
	row := effRowOf(e)
	row[part] = n
	e.Id, e.Side, e.Src, e.Class, e.Until, e.Left = row[0], row[1], row[2], row[3], row[4], row[5]
	return e
}

func withPat(e impl.Effect, p impl.Pat) impl.Effect {
	e.Pat = p
	return e
}

func withGuard(e impl.Effect, g impl.Guard) impl.Effect {
	e.Guard = g
	return e
}

func withAct(e impl.Effect, a impl.Act) impl.Effect {
	e.Act = a
	return e
}

func copyEffect(e impl.Effect) impl.Effect {
	return withAct(e, copyAct(e.Act))
}

// effectOf is right where the act and the guard are, and the act may be done to the kind.
func effectOf(kind int, a impl.Act, g impl.Guard) impl.Effect {
	return impl.Effect{Id: 17, Side: 1, Src: 31, Class: 3, Pat: impl.Pat{Kind: kind}, Guard: g, Act: a, Until: 800, Left: 9}
}

// kindActs has one right act of each kind, by its place.
func kindActs() [10]impl.Act {
	return [10]impl.Act{
		1: {Kind: 1, Side: -1}, 2: {Kind: 2, Side: -1}, 3: {Kind: 3, N: 53, Side: -1}, 4: {Kind: 4, Side: -1}, 5: {Kind: 5, Side: -1},
		6: {Kind: 6, Piece: 42, Side: -1}, 7: {Kind: 7, Side: -1, Zone: 3}, 8: {Kind: 8, N: 53, Side: -1, Bent: true}, 9: partsAct(openParts()[:2]...),
	}
}

// kindEffects has one right effect of each kind of act and each kind that it may be done to.
func kindEffects() []impl.Effect {
	var l []impl.Effect
	for kind := 1; kind <= 9; kind++ {
		for _, of := range fittingKinds()[kind] {
			l = append(l, effectOf(of, kindActs()[kind], impl.Guard{Kind: impl.GdLow, N: 4}))
		}
	}
	return l
}

func leastLeftOf(a impl.Act) int {
	if a.Kind == 2 {
		return 0
	}
	return -1
}

// effectIsRight goes by the document's words.
func effectIsRight(e impl.Effect) bool {
	least, most := effRow{1, 0, 0, 0, -1, leastLeftOf(e.Act)}, effRow{99, 2, 99, 4, 9999, maxNum}
	if e.Class == 0 {
		least[effSrc] = 1
	}
	for part, n := range effRowOf(e) {
		if n < least[part] || n > most[part] {
			return false
		}
	}
	return patIsRight(e.Pat) && guardIsRight(e.Guard) && actIsRight(e.Act) && slices.Contains(fittingKinds()[e.Act.Kind], e.Pat.Kind)
}

func stillLives(e impl.Effect, clock int) bool {
	return e.Left != 0 && (e.Until == -1 || clock <= e.Until)
}

func isNear(e impl.Effect, v impl.Event) bool {
	return e.Class != 0 || e.Src == v.Src || e.Src == v.Piece
}

func fitsAsSaid(s impl.State, e impl.Effect, v impl.Event) bool {
	return effectIsRight(e) && stillLives(e, s.Clock) && isNear(e, v) && guardIsSo(s, e.Side, e.Guard) && isAsked(s, e.Side, e.Pat, v)
}

func sameEffectAsSaid(a impl.Effect, b impl.Effect) bool {
	return effRowOf(a) == effRowOf(b) && patRowOf(a.Pat) == patRowOf(b.Pat) && a.Guard.Kind == b.Guard.Kind && a.Guard.N == b.Guard.N &&
		actRowOf(a.Act) == actRowOf(b.Act) && slices.EqualFunc(a.Act.List, b.Act.List, func(x, y impl.Event) bool { return rowOf(x) == rowOf(y) })
}

// leftAs works without a width that a sum could pass.
func leftAs(kind int, left int, n int) *big.Int {
	if kind != 2 {
		return big.NewInt(int64(left - bitOf(left > 0)))
	}
	less := bigBound(new(big.Int).Sub(bigOf(left), bigOf(n)))
	if less.Sign() < 0 {
		return big.NewInt(0)
	}
	return less
}

// partNums are about the bounds of each part, and past them.
func partNums() [effSize][]int {
	return [effSize][]int{
		effId: {-1, 0, 1, 2, 98, 99, 100}, effSide: {-2, -1, 0, 1, 2, 3}, effSrc: {-1, 0, 1, 98, 99, 100}, effClass: {-1, 0, 1, 3, 4, 5},
		effUntil: {-2, -1, 0, 1, 9998, 9999, 10000}, effLeft: {-2, -1, 0, 1, maxNum - 1, maxNum, maxNum + 1},
	}
}

// rightEffects are right by the bounds of each part, and by all right acts,
// patterns and guards, each of them with what it may go with.
func rightEffects() []impl.Effect {
	l := kindEffects()
	for _, e := range kindEffects() {
		for part, nums := range partNums() {
			for _, n := range nums {
				if other := withEffPart(e, part, n); effectIsRight(other) {
					l = append(l, other)
				}
			}
		}
	}
	for _, a := range rightActs() {
		for _, of := range fittingKinds()[a.Kind] {
			l = append(l, withPat(effectOf(of, a, impl.Guard{}), fullPats()[of-1]))
		}
	}
	for _, g := range rightGuards() {
		l = append(l, effectOf(4, impl.Act{Kind: 3, N: 2, Side: -1}, g))
	}
	return l
}

// wrongEffects are right ones but for one part, or for what the act may be done to.
func wrongEffects() []impl.Effect {
	l := []impl.Effect{{}, {Id: 1}, {Act: impl.Act{Side: -1}}}
	for _, e := range kindEffects() {
		for part, nums := range partNums() {
			for _, n := range append(farNums(), nums...) {
				if other := withEffPart(e, part, n); !effectIsRight(other) {
					l = append(l, other)
				}
			}
		}
		for kind := -1; kind <= 8; kind++ {
			if other := withPat(e, impl.Pat{Kind: kind}); !effectIsRight(other) {
				l = append(l, other)
			}
		}
		l = append(l, withPat(e, withPatPart(e.Pat, patLeast, -1)), withGuard(e, impl.Guard{Kind: impl.GdTurn, N: 1}), withAct(e, withActPart(e.Act, actZone, 5)))
		l = append(l, withEffPart(withEffPart(e, effClass, 0), effSrc, 0))
	}
	return l
}

func wantEffectOk(t *testing.T, e impl.Effect, want bool) {
	t.Helper()
	wantIs(t, "EffectOk", impl.EffectOk(e), want, e)
}

func wantEffectOks(t *testing.T, e impl.Effect, part int, oks map[int]bool) {
	t.Helper()
	for n, ok := range oks {
		wantEffectOk(t, withEffPart(e, part, n), ok)
	}
}

// wantSame asks both ways round.
func wantSame(t *testing.T, a impl.Effect, b impl.Effect, want bool) {
	t.Helper()
	wantIs(t, "SameEffect", impl.SameEffect(a, b), want, a, b)
	wantIs(t, "SameEffect the other way round", impl.SameEffect(b, a), want, b, a)
}

func wantEffect(t *testing.T, name string, got impl.Effect, want impl.Effect) {
	t.Helper()
	if !sameEffectAsSaid(got, want) {
		t.Errorf("%s is %v, want %v", name, got, want)
	}
}

func wantFits(t *testing.T, s impl.State, e impl.Effect, v impl.Event, want bool) {
	t.Helper()
	wantIs(t, "Fits", impl.Fits(s, e, v), want, s, e, v)
}

func TestEffectOkOfEachKind(t *testing.T) {
	for _, e := range rightEffects() {
		wantEffectOk(t, e, true)
	}
	for _, e := range wrongEffects() {
		wantEffectOk(t, e, false)
	}
	wantEffectOk(t, impl.Effect{}, false)
}

func TestEffectOkAtEachBound(t *testing.T) {
	for _, e := range kindEffects() {
		wantEffectOks(t, e, effId, map[int]bool{math.MinInt: false, -1: false, 0: false, 1: true, 2: true, 98: true, 99: true, 100: false, 257: false, 4294967297: false})
		wantEffectOks(t, e, effSide, map[int]bool{math.MinInt: false, -2: false, -1: false, 0: true, 1: true, 2: true, 3: false, 256: false, 4294967296: false})
		wantEffectOks(t, e, effClass, map[int]bool{math.MinInt: false, -1: false, 0: true, 1: true, 3: true, 4: true, 5: false, 256: false, 4294967296: false})
		wantEffectOks(t, e, effUntil, map[int]bool{math.MinInt: false, -9999: false, -2: false, -1: true, 0: true, 1: true, 9998: true, 9999: true, 10000: false, maxNum: false, 4294967295: false})
	}
}

// Of the class 0 it is of a piece; of the others it may be of none.
func TestEffectOkBySource(t *testing.T) {
	for _, e := range kindEffects() {
		for class := range 5 {
			e.Class = class
			wantEffectOks(t, e, effSrc, map[int]bool{math.MinInt: false, -99: false, -1: false, 0: class != 0, 1: true, 2: true, 98: true, 99: true, 100: false, 256: false, 4294967297: false})
		}
		for _, class := range []int{-1, 5} {
			e.Class = class
			wantEffectOks(t, e, effSrc, map[int]bool{-1: false, 0: false, 1: false, 99: false, 100: false})
		}
	}
}

// What is left of a shield is an amount; others may be done as often as may be.
func TestEffectOkByWhatIsLeft(t *testing.T) {
	for _, e := range kindEffects() {
		wantEffectOks(t, e, effLeft, map[int]bool{
			math.MinInt: false, -maxNum: false, -2: false, -1: e.Act.Kind != impl.AcShield, 0: true, 1: true, 99: true, 9999: true, 10000: true,
			maxNum - 1: true, maxNum: true, maxNum + 1: false, 4294967295: false, math.MaxInt: false,
		})
	}
}

func TestEffectOkOfEachActAndKind(t *testing.T) {
	for _, a := range rightActs() {
		for of := -1; of <= 8; of++ {
			fits := slices.Contains(fittingKinds()[a.Kind], of)
			wantEffectOk(t, effectOf(of, a, impl.Guard{}), fits)
			if fits {
				wantEffectOk(t, withPat(effectOf(of, a, impl.Guard{}), fullPats()[of-1]), true)
			}
		}
	}
}

// One of its parts that is not right is enough.
func TestEffectOkByItsParts(t *testing.T) {
	for _, e := range kindEffects() {
		for _, g := range rightGuards() {
			wantEffectOk(t, withGuard(e, g), true)
		}
		for _, g := range wrongGuards() {
			wantEffectOk(t, withGuard(e, g), false)
		}
		for _, p := range wrongPats() {
			wantEffectOk(t, withPat(e, p), false)
		}
	}
	for _, a := range wrongActs() {
		for of := 1; of <= 6; of++ {
			wantEffectOk(t, effectOf(of, a, impl.Guard{}), false)
		}
	}
	for _, p := range smallPats() {
		wantEffectOk(t, withPat(effectOf(1, kindActs()[1], impl.Guard{}), p), true)
		wantEffectOk(t, withPat(effectOf(1, kindActs()[8], impl.Guard{}), p), p.Kind == impl.EvMove)
	}
}

func TestEffectOkAtAllEdges(t *testing.T) {
	l := []impl.Effect{effectOf(1, kindActs()[2], impl.Guard{}), effectOf(1, kindActs()[6], impl.Guard{}), effectOf(2, kindActs()[3], impl.Guard{})}
	for part, nums := range [effSize][]int{{0, 1, 99, 100}, {-1, 0, 2, 3}, {-1, 0, 1, 99, 100}, {-1, 0, 1, 4, 5}, {-2, -1, 0, 9999, 10000}, {-2, -1, 0, maxNum, maxNum + 1}} {
		var more []impl.Effect
		for _, e := range l {
			for _, n := range nums {
				more = append(more, withEffPart(e, part, n))
			}
		}
		l = more
	}
	right := 0
	for _, e := range l {
		wantEffectOk(t, e, effectIsRight(e))
		right += bitOf(effectIsRight(e))
	}
	// As many as the bounds leave, counted by hand: so that not all are wrong.
	wantNumIs(t, "how many are right", right, 2*2*(2+2*3)*3*(2+3))
}

// otherEffects differ from e in one number alone, of itself or of one of its parts.
func otherEffects(e impl.Effect) []impl.Effect {
	var l []impl.Effect
	for part, n := range effRowOf(e) {
		l = append(l, withEffPart(e, part, n+1), withEffPart(e, part, ^n))
	}
	for part, n := range patRowOf(e.Pat) {
		l = append(l, withPat(e, withPatPart(e.Pat, part, n+1)), withPat(e, withPatPart(e.Pat, part, ^n)))
	}
	l = append(l, withGuard(e, impl.Guard{Kind: e.Guard.Kind + 1, N: e.Guard.N}), withGuard(e, impl.Guard{Kind: e.Guard.Kind, N: e.Guard.N + 1}))
	for part, n := range actRowOf(e.Act) {
		if part == actBent {
			n = -bitOf(e.Act.Bent)
		}
		l = append(l, withAct(e, withActPart(e.Act, part, n+1)))
	}
	for i := range e.Act.List {
		for part, n := range rowOf(e.Act.List[i]) {
			if part == bentPart {
				n = -n
			}
			list := slices.Clone(e.Act.List)
			list[i] = withEventPart(list[i], part, n+1)
			l = append(l, withAct(e, withList(e.Act, list...)))
		}
	}
	return l
}

// longParts has more in a List than a right act may have.
func longParts() []impl.Event {
	return append(rightParts(), wrongEvents()[:9]...)
}

func TestSameEffectOfOneFieldAlone(t *testing.T) {
	l := append(kindEffects(), impl.Effect{}, withAct(effectOf(1, kindActs()[1], impl.Guard{}), partsAct(openParts()[:3]...)))
	l = append(l, withAct(effectOf(1, impl.Act{}, impl.Guard{}), partsAct(longParts()...)), withAct(impl.Effect{}, impl.Act{List: kindEvents()}))
	differ := 0
	for _, e := range l {
		wantSame(t, e, copyEffect(e), true)
		for _, other := range otherEffects(e) {
			wantSame(t, e, other, false)
			wantSame(t, other, copyEffect(other), true)
			differ++
		}
	}
	// Of each 6 numbers and 7 of Pat, both twice, 2 of Guard and 6 of Act, and 7 of each in a List.
	wantNumIs(t, "how many differ", differ, (len(kindEffects())+4)*(2*13+8)+7*(2*6+3+len(longParts())+len(kindEvents())))
}

// Two numbers that are exchanged are not the same.
func TestSameEffectOfNumbersInOtherPlaces(t *testing.T) {
	e := effectOf(1, kindActs()[9], impl.Guard{Kind: impl.GdLow, N: 4})
	for one := range effSize {
		for two := range one {
			row := effRowOf(e)
			other := withEffPart(withEffPart(e, one, row[two]), two, row[one])
			wantSame(t, e, other, false)
		}
	}
	list := e.Act.List
	wantSame(t, e, withAct(e, partsAct(list[1], list[0])), false)
	wantSame(t, withGuard(e, impl.Guard{Kind: 1, N: 2}), withGuard(e, impl.Guard{Kind: 2, N: 1}), false)
}

func TestSameEffectByTheLengthOfItsList(t *testing.T) {
	for _, e := range append(kindEffects(), impl.Effect{}) {
		for _, l := range [][]impl.Event{longParts(), make([]impl.Event, 8)} {
			for one := range l {
				for two := range l {
					a, b := withAct(e, withList(e.Act, l[:one]...)), withAct(e, withList(e.Act, l[:two]...))
					wantSame(t, a, b, one == two)
					wantSame(t, copyEffect(a), b, one == two)
				}
			}
		}
		none, empty := withAct(e, withList(e.Act)), e
		empty.Act.List = []impl.Event{}
		wantSame(t, none, empty, true)
		empty.Act.List = make([]impl.Event, 0, 4)
		wantSame(t, none, empty, true)
		wantSame(t, none, withAct(e, withList(e.Act, impl.Event{})), false)
		wantSame(t, empty, withAct(e, withList(e.Act, impl.Event{})), false)
	}
}

// Where a List lies does not count, nor what lies behind it.
func TestSameEffectByWhereItsListLies(t *testing.T) {
	for _, e := range append(rightEffects(), wrongEffects()...) {
		room := withAct(e, roomyAct(e.Act))
		wantSame(t, e, room, true)
		wantSame(t, room, withAct(e, roomyAct(e.Act)), true)
		wantSame(t, room, withAct(e, wholeList(room.Act)), false)
		whole := wholeList(room.Act).List
		wantSame(t, room, withAct(e, withList(e.Act, whole[1:len(e.Act.List)+1]...)), len(e.Act.List) == 0)
	}
}

// It is so of effects that are not right as well.
func TestSameEffectAsTheDocumentSays(t *testing.T) {
	l := append(append(kindEffects(), otherEffects(kindEffects()[0])...), wrongEffects()[:60]...)
	l = append(l, otherEffects(withAct(kindEffects()[0], partsAct(openParts()...)))...)
	same := map[bool]int{}
	for _, a := range l {
		for _, b := range l {
			want := sameEffectAsSaid(a, b)
			wantIs(t, "SameEffect", impl.SameEffect(copyEffect(a), b), want, a, b)
			same[want]++
		}
	}
	wantIs(t, "whether many are the same, and many are not", same[true] >= len(l) && same[false] > 1000, true, same)
}

func TestLivesTable(t *testing.T) {
	for _, x := range []struct {
		left, until, clock int
		want               bool
	}{
		{1, 5, 4, true}, {1, 5, 5, true}, {1, 5, 6, false}, {-1, 5, 4, true}, {-1, 5, 5, true}, {-1, 5, 6, false},
		{0, 5, 4, false}, {0, 5, 5, false}, {0, 5, 6, false}, {0, -1, 0, false}, {0, -1, -1, false}, {0, -1, 9999, false},
		{1, -1, 0, true}, {1, -1, 9999, true}, {-1, -1, 0, true}, {-1, -1, 9999, true}, {maxNum, -1, 9999, true}, {-5, -1, 3, true},
		{1, 0, 0, true}, {1, 0, 1, false}, {1, 0, -1, true}, {-1, 0, 1, false}, {1, 9999, 9999, true}, {1, 9999, 9998, true}, {1, 9999, 10000, false},
		{1, 5, -1, true}, {1, 5, -7, true}, {1, -1, -7, true}, {1, -1, math.MaxInt, true}, {1, -1, math.MinInt, true}, {1, 5, math.MinInt, true}, {1, 5, math.MaxInt, false},
		{1, -2, -3, true}, {1, -2, -2, true}, {1, -2, -1, false}, {1, -2, 0, false}, {1, math.MaxInt, math.MaxInt, true}, {1, math.MinInt, math.MinInt, true}, {1, math.MinInt, 0, false},
	} {
		for _, e := range append(kindEffects(), impl.Effect{}) {
			e.Left, e.Until = x.left, x.until
			wantIs(t, "Lives", impl.Lives(e, x.clock), x.want, e, x.clock)
		}
	}
}

func TestLivesAsTheDocumentSays(t *testing.T) {
	nums := append(edgeNums(), 9998, 9999, 10000, 5, 6)
	for _, until := range nums {
		for _, left := range nums {
			e := impl.Effect{Until: until, Left: left}
			for _, clock := range append(nums, until+1, until-1) {
				wantIs(t, "Lives", impl.Lives(e, clock), stillLives(e, clock), e, clock)
			}
		}
	}
	for _, e := range append(rightEffects(), wrongEffects()...) {
		for _, clock := range []int{-1, 0, 1, 799, 800, 801, 9998, 9999, 10000} {
			wantIs(t, "Lives", impl.Lives(e, clock), stillLives(e, clock), e, clock)
		}
	}
}

func TestNearTable(t *testing.T) {
	for _, x := range []struct {
		src, class, source, piece int
		want                      bool
	}{
		{9, 0, 9, 0, true}, {9, 0, 0, 9, true}, {9, 0, 9, 9, true}, {9, 0, 9, 4, true}, {9, 0, 4, 9, true}, {9, 0, 4, 4, false}, {9, 0, 8, 10, false}, {9, 0, 0, 0, false},
		{0, 0, 0, 0, true}, {0, 0, 0, 7, true}, {0, 0, 7, 0, true}, {0, 0, 7, 8, false}, {-3, 0, -3, 0, true}, {-3, 0, 5, -3, true}, {-3, 0, 3, 0, false}, {265, 0, 9, 9, false},
		{100, 0, 100, 0, true}, {math.MinInt, 0, math.MinInt, 0, true}, {math.MaxInt, 0, 0, math.MaxInt, true}, {4294967305, 0, 9, 9, false},
		{9, 1, 4, 4, true}, {9, 4, 0, 0, true}, {0, 1, 7, 8, true}, {0, 2, 0, 0, true}, {9, 3, 9, 9, true}, {9, -1, 4, 4, true}, {9, 5, 4, 4, true}, {9, 256, 4, 4, true}, {9, math.MinInt, 4, 4, true},
	} {
		for _, base := range append(kindEffects(), impl.Effect{}) {
			e := withEffPart(withEffPart(base, effSrc, x.src), effClass, x.class)
			for _, kind := range []int{-1, 0, 1, 2, 3, 4, 5, 6, 7} {
				v := impl.Event{Kind: kind, Src: x.source, Piece: x.piece, Side: 9, N: 9, Zone: 9}
				wantIs(t, "Near", impl.Near(e, v), x.want, e, v)
			}
		}
	}
}

func TestNearAsTheDocumentSays(t *testing.T) {
	for _, v := range append(append(kindEvents(), wrongEvents()...), edgeEvents()[:2000]...) {
		for _, src := range []int{-1, 0, 1, 31, 42, 99, 100, v.Src, v.Piece, v.Side, v.N, v.Kind} {
			for _, class := range []int{-1, 0, 1, 4, 5} {
				e := impl.Effect{Src: src, Class: class, Pat: impl.Pat{Src: v.Src, Piece: v.Piece}}
				wantIs(t, "Near", impl.Near(e, v), isNear(e, v), e, v)
			}
		}
	}
}

// A fitCase has all that Fits asks for; each of its misses takes one thing of that
// away, and leaves all else.
type fitCase struct {
	s      impl.State
	e      impl.Effect
	v      impl.Event
	misses map[string]func(c *fitCase)
}

// fitState has the piece 3, of side 1, which is bent and hurts with two traits, and
// the piece 5, of side 0; it is the turn of side 1, of a life of -22.
func fitState() impl.State {
	return stateOf(3,
		impl.Piece{Id: 3, Owner: 0, Side: 1, Zone: 2, Traits: 1 + 4, Bent: true},
		impl.Piece{Id: 5, Owner: 0, Side: 0, Zone: 2})
}

func fitCases() []fitCase {
	hurt := effectOf(1, impl.Act{Kind: 2, Side: -1}, impl.Guard{Kind: impl.GdBent, N: 1})
	hurt.Src, hurt.Class, hurt.Until, hurt.Pat = 5, 0, 777, impl.Pat{Kind: 1, Who: 2, Src: 3, Traits: 4, Piece: 5, Least: 6}
	gain := effectOf(3, impl.Act{Kind: 4, Side: -1}, impl.Guard{Kind: impl.GdLow, N: -22})
	gain.Src, gain.Left, gain.Pat = 0, -1, impl.Pat{Kind: 3, Who: 1, Least: 1}
	move := effectOf(2, impl.Act{Kind: 7, Side: -1, Zone: 4}, impl.Guard{Kind: impl.GdTurn})
	move.Src, move.Class, move.Until, move.Left = 3, 0, -1, 1
	move.Pat = impl.Pat{Kind: 2, Who: 1, Piece: 3, Zone: 1}
	return []fitCase{
		{fitState(), hurt, impl.Event{Kind: 1, Src: 3, Piece: 5, Side: -1, N: 6}, map[string]func(c *fitCase){
			"no number":                      func(c *fitCase) { c.e.Id = 0 },
			"a class that there is not":      func(c *fitCase) { c.e.Class = 5 },
			"a time past all":                func(c *fitCase) { c.e.Until = 10000 },
			"a shield without an end":        func(c *fitCase) { c.e.Left = -1 },
			"more left than may be":          func(c *fitCase) { c.e.Left = maxNum + 1 },
			"a shield with an amount":        func(c *fitCase) { c.e.Act.N = 1 },
			"an act of a move":               func(c *fitCase) { c.e.Act = impl.Act{Kind: 7, Side: -1, Zone: 4} },
			"a guard of more than there are": func(c *fitCase) { c.e.Guard = impl.Guard{Kind: impl.GdNone, N: 1} },
			"nothing left":                   func(c *fitCase) { c.e.Left = 0 },
			"one past its time":              func(c *fitCase) { c.s.Clock = 778 },
			"a time that is over":            func(c *fitCase) { c.e.Until = 776 },
			"of a piece that is not near":    func(c *fitCase) { c.e.Src = 7 },
			"one more bent":                  func(c *fitCase) { c.e.Guard.N = 2 },
			"none bent":                      func(c *fitCase) { c.s.Ps[0].Bent = false },
			"another's bent":                 func(c *fitCase) { c.e.Side = 2 },
			"its own":                        func(c *fitCase) { c.e.Pat.Who = 1 },
			"another source":                 func(c *fitCase) { c.e.Pat.Src = 5 },
			"a source of other traits":       func(c *fitCase) { c.e.Pat.Traits = 2 },
			"another piece":                  func(c *fitCase) { c.e.Pat.Piece = 3 },
			"one too little":                 func(c *fitCase) { c.v.N = 5 },
			"a piece that is not there":      func(c *fitCase) { c.s.Ps = c.s.Ps[:1] },
			"a thing that is not right":      func(c *fitCase) { c.v.Side = 0 },
			"another kind of thing":          func(c *fitCase) { c.v = impl.Event{Kind: 5, Piece: 5, Side: -1, N: 6} },
		}},
		{fitState(), gain, impl.Event{Kind: 3, Side: 1, N: 1}, map[string]func(c *fitCase){
			"a side that there is not":      func(c *fitCase) { c.e.Side = 3 },
			"one of class 0 of no piece":    func(c *fitCase) { c.e.Class = 0 },
			"a source past all":             func(c *fitCase) { c.e.Src = 100 },
			"done as often as less than -1": func(c *fitCase) { c.e.Left = -2 },
			"until ahead of all":            func(c *fitCase) { c.e.Until = -2 },
			"nothing left":                  func(c *fitCase) { c.e.Left = 0 },
			"its time is over":              func(c *fitCase) { c.s.Clock = 801 },
			"one life more":                 func(c *fitCase) { c.s.Ss[1].Life = -21 },
			"one less in the guard":         func(c *fitCase) { c.e.Guard.N = -23 },
			"another side's":                func(c *fitCase) { c.v.Side = 0 },
			"others'":                       func(c *fitCase) { c.e.Pat.Who = 2 },
			"nothing gained":                func(c *fitCase) { c.v.N = 0 },
			"more asked for":                func(c *fitCase) { c.e.Pat.Least = 2 },
			"a pattern that is not right":   func(c *fitCase) { c.e.Pat.Piece = 3 },
			"of loss":                       func(c *fitCase) { c.e.Pat.Kind = 4 },
			"a loss":                        func(c *fitCase) { c.v.Kind = 4 },
			"an act of hurt":                func(c *fitCase) { c.e.Act = impl.Act{Kind: 2, Side: -1} },
		}},
		{fitState(), move, impl.Event{Kind: 2, Piece: 3, Side: -1, Zone: 1}, map[string]func(c *fitCase){
			"a number past all":           func(c *fitCase) { c.e.Id = 100 },
			"an act of amounts":           func(c *fitCase) { c.e.Act = impl.Act{Kind: 4, Side: -1} },
			"an act to no zone":           func(c *fitCase) { c.e.Act.Zone = 0 },
			"nothing left":                func(c *fitCase) { c.e.Left = 0 },
			"of a piece that is not near": func(c *fitCase) { c.e.Src = 5 },
			"another's turn":              func(c *fitCase) { c.s.Active = 0 },
			"another's effect":            func(c *fitCase) { c.e.Side = 0; c.e.Pat.Who = 0 },
			"another's piece":             func(c *fitCase) { c.s.Ps[0].Side = 2 },
			"others":                      func(c *fitCase) { c.e.Pat.Who = 2 },
			"another zone":                func(c *fitCase) { c.v.Zone = 3 },
			"another zone asked for":      func(c *fitCase) { c.e.Pat.Zone = 3 },
			"counters":                    func(c *fitCase) { c.e.Pat.Least = 1 },
			"no sides":                    func(c *fitCase) { c.s.Ss = nil },
		}},
	}
}

func TestFitsMissesOneThing(t *testing.T) {
	for i, c := range fitCases() {
		wantFits(t, c.s, c.e, c.v, true)
		for name := range c.misses {
			other := fitCases()[i]
			other.misses[name](&other)
			wantIs(t, "Fits of "+name, impl.Fits(other.s, other.e, other.v), false, other.s, other.e, other.v)
		}
	}
}

// What lies within the bounds does not change that it fits.
func TestFitsAllTheSame(t *testing.T) {
	for i, changes := range [][]func(c *fitCase){
		{
			func(c *fitCase) { c.e.Id = 99 }, func(c *fitCase) { c.e.Src = 3 }, func(c *fitCase) { c.e.Src, c.e.Class = 0, 1 }, func(c *fitCase) { c.e.Class = 4 },
			func(c *fitCase) { c.e.Until = 9999 }, func(c *fitCase) { c.e.Until = -1 }, func(c *fitCase) { c.e.Left = 1 }, func(c *fitCase) { c.e.Left = maxNum },
			func(c *fitCase) { c.s.Clock = 0 }, func(c *fitCase) { c.s.Clock = -5 }, func(c *fitCase) { c.v.N = maxNum }, func(c *fitCase) { c.e.Act.List = []impl.Event{} },
		},
		{
			func(c *fitCase) { c.e.Src = 42 }, func(c *fitCase) { c.e.Left = 1 }, func(c *fitCase) { c.s.Clock = 800 }, func(c *fitCase) { c.s.Ss[1].Life = -maxNum },
			func(c *fitCase) { c.e.Guard = impl.Guard{} }, func(c *fitCase) { c.v.N = 2 }, func(c *fitCase) { c.e.Pat.Least = 0 }, func(c *fitCase) { c.e.Act = partsAct(openParts()[0]) },
		},
		{
			func(c *fitCase) { c.e.Id = 1 }, func(c *fitCase) { c.e.Left = -1 }, func(c *fitCase) { c.s.Clock = 9999 }, func(c *fitCase) { c.e.Act.Zone = 1 },
			func(c *fitCase) { c.s.Active, c.e.Side, c.e.Pat.Who = 0, 0, 2 }, func(c *fitCase) { c.e.Act = impl.Act{Kind: 1, Side: -1} },
		},
	} {
		for _, change := range changes {
			c := fitCases()[i]
			change(&c)
			wantFits(t, c.s, c.e, c.v, true)
		}
	}
}

// Its guard and its pattern are asked for its own side.
func TestFitsByItsSide(t *testing.T) {
	for _, sides := range []int{2, 3} {
		for active := range sides {
			s := stateOf(sides)
			s.Active = active
			for side := -1; side <= 3; side++ {
				for target := range 3 {
					v := impl.Event{Kind: impl.EvLose, Side: target, N: 4}
					e := impl.Effect{Id: 4, Side: side, Class: 1, Act: impl.Act{Kind: 1, Side: -1}, Until: -1, Left: -1}
					there := 0 <= side && side < sides && target < sides
					for _, kind := range []int{impl.GdNone, impl.GdTurn} {
						e.Guard.Kind = kind
						isSo := there && (kind == impl.GdNone || side == active)
						for who, fits := range []bool{true, side == target, side != target} {
							e.Pat = impl.Pat{Kind: impl.EvLose, Who: who}
							wantFits(t, s, e, v, isSo && fits)
						}
					}
				}
			}
		}
	}
}

// fitEffects fit some of patEvents in some of patStates, others not.
func fitEffects() []impl.Effect {
	var l []impl.Effect
	for i, p := range smallPats() {
		e := effectOf(p.Kind, kindActs()[1+i%9], rightGuards()[i%len(rightGuards())])
		if i%2 == 0 {
			e.Act, e.Guard = kindActs()[impl.AcStop], impl.Guard{}
		}
		e.Side, e.Src, e.Class = i%3, []int{3, 5, 7, 0}[i%4], i%5
		e.Until, e.Left = []int{-1, 777, 776, 9999}[i/3%4], []int{-1, 1, 5, 0}[i/7%4]
		l = append(l, e)
	}
	return l
}

func TestFitsAsTheDocumentSays(t *testing.T) {
	fits := map[bool]int{}
	for _, s := range patStates() {
		for _, e := range fitEffects() {
			for _, v := range patEvents() {
				want := fitsAsSaid(s, e, v)
				if impl.Fits(s, e, v) != want {
					wantFits(t, s, e, v, want)
				}
				fits[want]++
			}
		}
	}
	wantIs(t, "whether many fit, and many do not", fits[true] > 1000 && fits[false] > 1000, true, fits)
}

// It is asked of states that are not right all the same: by what is found there.
func TestFitsInNoRightState(t *testing.T) {
	fits := map[bool]int{}
	states := append(wrongStates(), impl.State{}, impl.State{Clock: -1}, impl.State{Ss: []impl.Side{{Life: math.MinInt}}, Clock: math.MinInt, Active: -1})
	for _, base := range states {
		for _, id := range append(idsOf(base.Ps), 3) {
			v := impl.Event{Kind: impl.EvPut, Piece: id, Side: -1, N: 2}
			for side := range 3 {
				for _, until := range []int{-1, 0, 777, 9999} {
					e := impl.Effect{Id: 4, Side: side, Class: 1, Pat: impl.Pat{Kind: impl.EvPut}, Act: impl.Act{Kind: 5, Side: -1}, Until: until, Left: 1}
					wantFits(t, base, e, v, fitsAsSaid(base, e, v))
					e.Pat.Who = impl.WhoOwn
					wantFits(t, base, e, v, fitsAsSaid(base, e, v))
					fits[fitsAsSaid(base, e, v)]++
				}
			}
		}
	}
	wantIs(t, "whether many fit, and many do not", fits[true] > 100 && fits[false] > 100, true, fits)
	s := fitCases()[0].s
	s.Ps = []impl.Piece{s.Ps[1], s.Ps[0], {Id: -9, Zone: 77}}
	wantFits(t, s, fitCases()[0].e, fitCases()[0].v, true)
}

func TestFitsOfNoRightEffect(t *testing.T) {
	for _, s := range append(rightStates()[:12], wrongStates()[:12]...) {
		for _, e := range wrongEffects() {
			for _, v := range kindEvents() {
				wantFits(t, s, e, v, false)
			}
		}
	}
}

func TestSpentTable(t *testing.T) {
	for _, x := range [][4]int{
		{impl.AcShield, 5, 0, 5}, {impl.AcShield, 5, 1, 4}, {impl.AcShield, 5, 4, 1}, {impl.AcShield, 5, 5, 0}, {impl.AcShield, 5, 6, 0}, {impl.AcShield, 5, maxNum, 0}, {impl.AcShield, 5, maxNum + 1, 0},
		{impl.AcShield, 5, math.MaxInt, 0}, {impl.AcShield, 5, -1, 6}, {impl.AcShield, 5, -maxNum, maxNum}, {impl.AcShield, 5, math.MinInt, maxNum}, {impl.AcShield, 0, 0, 0}, {impl.AcShield, 0, 1, 0},
		{impl.AcShield, 0, -1, 1}, {impl.AcShield, 0, math.MinInt, maxNum}, {impl.AcShield, 0, math.MaxInt, 0}, {impl.AcShield, 1, 1, 0}, {impl.AcShield, 1, 2, 0},
		{impl.AcShield, maxNum, 0, maxNum}, {impl.AcShield, maxNum, 1, maxNum - 1}, {impl.AcShield, maxNum, maxNum - 1, 1}, {impl.AcShield, maxNum, maxNum, 0}, {impl.AcShield, maxNum, maxNum + 1, 0},
		{impl.AcShield, maxNum, -1, maxNum}, {impl.AcShield, maxNum, math.MinInt, maxNum}, {impl.AcShield, maxNum, math.MaxInt, 0},
		{impl.AcShield, maxNum - 3, -2, maxNum - 1}, {impl.AcShield, maxNum - 3, -3, maxNum}, {impl.AcShield, maxNum - 3, -4, maxNum}, {impl.AcShield, 3, -maxNum - 1, maxNum}, {impl.AcShield, 1, -maxNum + 2, maxNum - 1},
		{impl.AcShield, maxNum + 1, 0, maxNum}, {impl.AcShield, maxNum + 1, 1, maxNum - 1}, {impl.AcShield, math.MaxInt, -1, maxNum}, {impl.AcShield, math.MaxInt, math.MinInt, maxNum},
		{impl.AcShield, -1, 0, 0}, {impl.AcShield, -1, 3, 0}, {impl.AcShield, -1, -1, 0}, {impl.AcShield, -1, -2, 1}, {impl.AcShield, -9, -3, 0}, {impl.AcShield, -9, -12, 3},
		{impl.AcShield, -maxNum, -maxNum, 0}, {impl.AcShield, math.MinInt, math.MaxInt, 0}, {impl.AcShield, math.MinInt, math.MinInt, 0}, {impl.AcShield, 1 - maxNum, math.MinInt, 1},
		{impl.AcStop, -1, 3, -1}, {impl.AcStop, 0, 3, 0}, {impl.AcStop, 1, 3, 0}, {impl.AcStop, 2, 3, 1}, {impl.AcStop, maxNum, 3, maxNum - 1}, {impl.AcTwice, 5, 0, 4}, {impl.AcHalf, 5, -9, 4},
		{impl.AcMore, 5, math.MinInt, 4}, {impl.AcTurn, 5, math.MaxInt, 4}, {impl.AcZone, 1, 0, 0}, {impl.AcEnter, 0, 0, 0}, {impl.AcParts, -1, 0, -1}, {impl.AcParts, maxNum, maxNum, maxNum - 1},
		{impl.AcMore, -2, 1, -2}, {impl.AcMore, math.MinInt, 1, math.MinInt}, {0, 3, 5, 2}, {0, 0, 5, 0}, {10, 3, 5, 2}, {10, -1, 5, -1}, {-2, 1, 5, 0},
	} {
		for _, e := range append(kindEffects(), impl.Effect{}) {
			e.Act.Kind, e.Left = x[0], x[1]
			want := withEffPart(e, effLeft, x[3])
			wantEffect(t, "Spent", impl.Spent(e, x[2]), want)
		}
	}
}

// All but what is left stays, of effects that are not right as well.
func TestSpentAsTheDocumentSays(t *testing.T) {
	for _, base := range append(append(kindEffects(), wrongEffects()[:40]...), impl.Effect{}, withAct(impl.Effect{}, impl.Act{Kind: 2, List: longParts()})) {
		for _, left := range edgeNums() {
			e := withEffPart(base, effLeft, left)
			for _, n := range append(edgeNums(), left-1, left, left+1) {
				got := impl.Spent(e, n)
				wantBig(t, "Left of Spent", got.Left, leftAs(e.Act.Kind, left, n), e.Act.Kind, left, n)
				got.Left = left
				wantEffect(t, "Spent, but for what is left,", got, e)
			}
		}
	}
}

// Promise 10, of each amount that a shield may have taken away: below 0 is none.
func TestWhatIsLeftIsNeverMore(t *testing.T) {
	less, same := 0, 0
	for _, base := range rightEffects() {
		for _, left := range append(edgeNums(), base.Left) {
			e := withEffPart(base, effLeft, left)
			if !impl.EffectOk(e) {
				continue
			}
			for _, n := range append(edgeNums(), left-1, left, left+1) {
				got := impl.Spent(e, n)
				wantEffectOk(t, got, true)
				if e.Act.Kind == impl.AcShield && n < 0 {
					continue
				}
				if got.Left > left {
					t.Errorf("Spent of %v by %d leaves %d", e, n, got.Left)
				}
				less, same = less+bitOf(got.Left < left), same+bitOf(got.Left == left)
			}
		}
	}
	wantIs(t, "whether many have less, and many as much", less > 1000 && same > 1000, true, less, same)
}

// What a shield would have taken away below 0 comes to what is left of it, up to
// the bound of Less; of others it is done once less, whatever n is.
func TestSpentByLessThanNothing(t *testing.T) {
	more, full := 0, 0
	for _, base := range rightEffects() {
		for _, left := range []int{0, 1, 2, 9, 800, maxNum - 9, maxNum - 1, maxNum} {
			for _, n := range []int{-1, -2, -8, -9, -10, -999, -maxNum + 1, -maxNum, -maxNum - 1, math.MinInt} {
				e := withEffPart(base, effLeft, left)
				want := max(0, left-1)
				if e.Act.Kind == impl.AcShield {
					want = maxNum
					if n > left-maxNum {
						want = left - n
					}
					more, full = more+bitOf(want > left), full+bitOf(want == maxNum)
				}
				got := impl.Spent(e, n)
				wantEffect(t, "Spent", got, withEffPart(e, effLeft, want))
				wantEffectOk(t, got, true)
			}
		}
	}
	wantIs(t, "whether many have more, and many all", more > 100 && full > 100, true, more, full)
}

// Promise 10, of one turn behind the other: what a shield took away in all is no
// more than it had, and others are done as often as is left of them.
func TestWhatIsLeftGoesDownToNothing(t *testing.T) {
	for _, amounts := range [][]int{{1, 1, 1, 1, 1, 1, 1, 1, 1, 1}, {3, 0, 2, 4, 1, 0, 7}, {9, 9}, {8, 2, 0}, {0, 0, 0}, {maxNum, 0, maxNum}, {2, math.MaxInt, 0, 3}} {
		for _, e := range kindEffects() {
			times := 0
			for _, n := range amounts {
				next := impl.Spent(e, n)
				took := e.Left - next.Left
				most := n
				if e.Act.Kind != impl.AcShield {
					most, times = 1, times+1
				}
				wantNumIs(t, "what was taken", took, min(e.Left, most), e, n)
				wantIs(t, "Lives", impl.Lives(next, 800), next.Left > 0, next)
				e = next
			}
			if e.Act.Kind != impl.AcShield {
				wantNumIs(t, "how often it may still be done", e.Left, max(0, 9-times), amounts)
			}
		}
	}
}

func TestWhatMayBeDoneForEverStaysSo(t *testing.T) {
	for _, e := range kindEffects() {
		if e.Act.Kind == impl.AcShield {
			continue
		}
		e.Left = -1
		for _, n := range append(edgeNums(), edgeNums()...) {
			e = impl.Spent(e, n)
			wantNumIs(t, "what is left", e.Left, -1, e, n)
			wantEffectOk(t, e, true)
		}
	}
}

func TestSpentSharesNoMemory(t *testing.T) {
	for _, base := range append(append(kindEffects(), wrongEffects()[:40]...), withAct(impl.Effect{}, partsAct(longParts()...))) {
		for _, n := range []int{math.MinInt, 0, 4, 9, maxNum + 1} {
			e := withAct(base, roomyAct(base.Act))
			before := copyEffect(withAct(e, wholeList(e.Act)))
			first, second := impl.Spent(e, n), impl.Spent(e, n)
			want := copyEffect(first)
			spoilEvents(first.Act.List)
			wantEffect(t, "what was spent, the answer written over,", withAct(e, wholeList(e.Act)), before)
			wantEffect(t, "Spent with an earlier answer written over", second, want)
			spoilEvents(e.Act.List)
			wantEffect(t, "Spent with its argument written over", second, want)
		}
	}
}

// What lies behind a List, and behind a state's lists, is not looked at.
func TestEffectsLookAtNoRoomBehind(t *testing.T) {
	for _, base := range append(rightEffects(), wrongEffects()...) {
		wantEffectOk(t, withAct(base, roomyAct(base.Act)), effectIsRight(base))
	}
	for _, c := range fitCases() {
		wantFits(t, roomyState(c.s), withAct(c.e, roomyAct(c.e.Act)), c.v, true)
	}
	s := roomyState(stateOf(2))
	wholeRoom(s).Ps[0] = impl.Piece{Id: 3, Side: 1, Zone: 2, Bent: true}
	wantFits(t, s, fitCases()[2].e, fitCases()[2].v, false)
}

func TestAskingOfEffectsLeavesTheArguments(t *testing.T) {
	v := impl.Event{Kind: impl.EvHurt, Src: 31, Side: 1, N: 9}
	kept := v
	for _, base := range append(rightEffects(), wrongEffects()[:300]...) {
		s, e := roomyState(fitState()), withAct(base, roomyAct(base.Act))
		before, beforeS := copyEffect(withAct(e, wholeList(e.Act))), copyState(wholeRoom(s))
		ok, fits := impl.EffectOk(e), impl.Fits(s, e, v)
		impl.SameEffect(e, base)
		impl.SameEffect(base, e)
		impl.Lives(e, 9)
		impl.Near(e, v)
		impl.Spent(e, 4)
		wantEffectOk(t, e, ok)
		wantFits(t, s, e, v, fits)
		wantEffect(t, "what was asked of", withAct(e, wholeList(e.Act)), before)
		wantState(t, "what was asked in", wholeRoom(s), beforeS)
		wantEvent(t, "what was asked for", v, kept)
	}
}
