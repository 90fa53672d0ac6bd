package tests

import (
	"math"
	"testing"

	"loop.example/g00486/impl"
)

// The parts of a pattern, in the document's order.
const (
	patKind = iota
	patWho
	patSrc
	patTraits
	patPiece
	patLeast
	patZone
	patSize
)

type patRow [patSize]int

func patRowOf(p impl.Pat) patRow {
	return patRow{p.Kind, p.Who, p.Src, p.Traits, p.Piece, p.Least, p.Zone}
}

func (row patRow) pat() impl.Pat {
	return impl.Pat{Kind: row[0], Who: row[1], Src: row[2], Traits: row[3], Piece: row[4], Least: row[5], Zone: row[6]}
}

func withPatPart(p impl.Pat, part int, n int) impl.Pat {
	row := patRowOf(p)
	row[part] = n
	return row.pat()
}

// mostOf has the greatest of each part by kind; the least of all but the kind is 0.
func mostOf() [6]patRow {
	return [6]patRow{
		{1, 2, 99, 63, 99, maxNum, 0},
		{2, 2, 0, 0, 99, maxNum, 4},
		{3, 2, 0, 0, 0, maxNum, 0},
		{4, 2, 0, 0, 0, maxNum, 0},
		{5, 2, 0, 0, 99, maxNum, 0},
		{6, 2, 0, 0, 99, maxNum, 0},
	}
}

func isKind(kind int) bool {
	return 1 <= kind && kind <= 6
}

func patIsRight(p impl.Pat) bool {
	if !isKind(p.Kind) {
		return false
	}
	most := mostOf()[p.Kind-1]
	for part, n := range patRowOf(p) {
		if n < 0 || n > most[part] {
			return false
		}
	}
	return true
}

// patsOf takes each number of each part with those of all others.
func patsOf(parts [patSize][]int) []impl.Pat {
	l := []impl.Pat{{}}
	for part, nums := range parts {
		var more []impl.Pat
		for _, p := range l {
			for _, n := range nums {
				more = append(more, withPatPart(p, part, n))
			}
		}
		l = more
	}
	return l
}

func rightPatsOf(parts [patSize][]int) []impl.Pat {
	var l []impl.Pat
	for _, p := range patsOf(parts) {
		if patIsRight(p) {
			l = append(l, p)
		}
	}
	return l
}

// fullPats asks for something in each part that belongs to the kind.
func fullPats() []impl.Pat {
	return []impl.Pat{
		{Kind: 1, Who: 1, Src: 31, Traits: 21, Piece: 42, Least: 53},
		{Kind: 2, Who: 2, Piece: 42, Least: 53, Zone: 2},
		{Kind: 3, Who: 1, Least: 53},
		{Kind: 4, Who: 2, Least: 53},
		{Kind: 5, Who: 1, Piece: 42, Least: 53},
		{Kind: 6, Who: 2, Piece: 42, Least: 53},
	}
}

// wrongPats are right patterns but for one part.
func wrongPats() []impl.Pat {
	l := []impl.Pat{{}, {Kind: -1}, {Kind: 7}, {Who: 1}}
	for kind := 1; kind <= 6; kind++ {
		for _, p := range []impl.Pat{{Kind: kind}, fullPats()[kind-1]} {
			for part := range patSize {
				for _, n := range append(farNums(), -1, 1, 3, 5, 7, 64, 100) {
					if other := withPatPart(p, part, n); !patIsRight(other) {
						l = append(l, other)
					}
				}
			}
		}
	}
	return l
}

// targetOf, sourceTraits and the two below go by the document's words, without
// the program's own Target and Source.
func targetOf(s impl.State, e impl.Event) int {
	if e.Piece == 0 && 0 <= e.Side && e.Side < len(s.Ss) {
		return e.Side
	}
	for _, p := range s.Ps {
		if p.Id == e.Piece {
			return p.Side
		}
	}
	return -1
}

func sourceTraits(s impl.State, e impl.Event) int {
	for _, p := range s.Ps {
		if e.Kind == 1 && p.Id == e.Src {
			return p.Traits
		}
	}
	return 0
}

func targetIsAsked(s impl.State, side int, p impl.Pat, e impl.Event) bool {
	target := targetOf(s, e)
	if target == -1 || p.Who == 1 && target != side || p.Who == 2 && target == side {
		return false
	}
	return p.Piece == 0 || p.Piece == e.Piece
}

func sourceIsAsked(s impl.State, p impl.Pat, e impl.Event) bool {
	return hasThem(sourceTraits(s, e), p.Traits) && (p.Src == 0 || p.Src == e.Src)
}

// hasThem goes bit by bit, through all that a number has.
func hasThem(has int, asked int) bool {
	for place := range 64 {
		if uint64(asked)>>place%2 > uint64(has)>>place%2 {
			return false
		}
	}
	return true
}

func isAsked(s impl.State, side int, p impl.Pat, e impl.Event) bool {
	if !patIsRight(p) || !fitsAShape(e) || p.Kind != e.Kind {
		return false
	}
	return targetIsAsked(s, side, p, e) && sourceIsAsked(s, p, e) && e.N >= p.Least && (p.Zone == 0 || p.Zone == e.Zone)
}

func asksForAll(p impl.Pat, q impl.Pat) bool {
	if !patIsRight(p) || !patIsRight(q) || p.Kind != q.Kind || q.Least > p.Least {
		return false
	}
	more, less := patRowOf(p), patRowOf(q)
	for _, part := range []int{patWho, patSrc, patPiece, patZone} {
		if less[part] != 0 && less[part] != more[part] {
			return false
		}
	}
	return hasThem(p.Traits, q.Traits)
}

func wantPatOks(t *testing.T, p impl.Pat, part int, oks map[int]bool) {
	t.Helper()
	for n, ok := range oks {
		other := withPatPart(p, part, n)
		wantIs(t, "PatOk", impl.PatOk(other), ok, other)
	}
}

func TestWhoConstants(t *testing.T) {
	for i, who := range []int{impl.WhoAny, impl.WhoOwn, impl.WhoOther} {
		wantNumIs(t, "whom", who, i, i)
	}
}

func TestPatOkOfEachKind(t *testing.T) {
	for kind := -2; kind <= 9; kind++ {
		wantIs(t, "PatOk of a kind alone", impl.PatOk(impl.Pat{Kind: kind}), 1 <= kind && kind <= 6, kind)
		wantIs(t, "PatOk of a kind and an amount", impl.PatOk(impl.Pat{Kind: kind, Who: 2, Least: 4}), 1 <= kind && kind <= 6, kind)
	}
	for _, p := range fullPats() {
		wantIs(t, "PatOk", impl.PatOk(p), true, p)
		for _, kind := range append(farNums(), -6, -1, 0, 7, 255, 257) {
			p.Kind = kind
			wantIs(t, "PatOk", impl.PatOk(p), false, p)
		}
	}
	for _, p := range wrongPats() {
		wantIs(t, "PatOk", impl.PatOk(p), false, p)
	}
}

func TestPatOkAtEachBound(t *testing.T) {
	whos := map[int]bool{-1: false, 0: true, 1: true, 2: true, 3: false}
	leasts := map[int]bool{-1: false, 0: true, 1: true, maxNum - 1: true, maxNum: true, maxNum + 1: false}
	for _, full := range fullPats() {
		for _, p := range []impl.Pat{{Kind: full.Kind}, full} {
			hurts, moves, ofPiece := p.Kind == impl.EvHurt, p.Kind == impl.EvMove, p.Kind != impl.EvGain && p.Kind != impl.EvLose
			wantPatOks(t, p, patWho, whos)
			wantPatOks(t, p, patLeast, leasts)
			wantPatOks(t, p, patSrc, map[int]bool{-1: false, 0: true, 1: hurts, 98: hurts, 99: hurts, 100: false})
			wantPatOks(t, p, patTraits, map[int]bool{-1: false, 0: true, 1: hurts, 32: hurts, 62: hurts, 63: hurts, 64: false, 127: false})
			wantPatOks(t, p, patPiece, map[int]bool{-1: false, 0: true, 1: ofPiece, 98: ofPiece, 99: ofPiece, 100: false})
			wantPatOks(t, p, patZone, map[int]bool{-1: false, 0: true, 1: moves, 2: moves, 3: moves, 4: moves, 5: false})
		}
	}
}

func TestPatOkAtAllEdges(t *testing.T) {
	right := 0
	for _, p := range patsOf([patSize][]int{
		{-1, 0, 1, 2, 3, 4, 5, 6, 7}, {-1, 0, 1, 2, 3}, {-1, 0, 1, 99, 100}, {-1, 0, 1, 63, 64},
		{-1, 0, 1, 99, 100}, {-1, 0, 1, maxNum, maxNum + 1}, {-1, 0, 1, 2, 3, 4, 5},
	}) {
		wantIs(t, "PatOk", impl.PatOk(p), patIsRight(p), p)
		right += bitOf(patIsRight(p))
	}
	// As many as the bounds leave, counted by hand: so that not all are wrong.
	wantNumIs(t, "how many are right", right, 3*3*(3*3*3+3*5+1+1+3+3))
}

// patStates have the pieces 3 (of side 1, with two traits), 5 (of side 0, with
// none) and 7 (of the last side, with all).
func patStates() []impl.State {
	var l []impl.State
	for _, sides := range []int{2, 3} {
		last := sides - 1
		l = append(l, stateOf(sides,
			impl.Piece{Id: 3, Owner: 0, Side: 1, Zone: 2, Traits: 1 + 4},
			impl.Piece{Id: 5, Owner: 0, Side: 0, Zone: 3},
			impl.Piece{Id: 7, Owner: last, Side: last, Zone: 1, Traits: 63}))
	}
	return l
}

func TestTargetFitsByWho(t *testing.T) {
	for _, s := range patStates() {
		last := len(s.Ss) - 1
		for target, events := range map[int][]impl.Event{
			-1:   {{Kind: 3, Side: last + 1, N: 1}, {Kind: 4, Side: -1}, {Kind: 5, Piece: 4, Side: -1}, {Kind: 1, Src: 3, Piece: 99, Side: -1}, {Kind: 1, Src: 3, Side: 3}},
			0:    {{Kind: 3, N: 1}, {Kind: 4}, {Kind: 6, Piece: 5, Side: -1}, {Kind: 1, Src: 9, Piece: 5, Side: -1}},
			last: {{Kind: 3, Side: last}, {Kind: 2, Piece: 7, Side: -1, Zone: 2}, {Kind: 1, Src: 5, Side: last}},
		} {
			for _, e := range events {
				for side := -2; side <= 4; side++ {
					p := impl.Pat{Kind: e.Kind}
					wantIs(t, "TargetFits of anybody", impl.TargetFits(s, side, p, e), target != -1, side, e)
					p.Who = impl.WhoOwn
					wantIs(t, "TargetFits of its own", impl.TargetFits(s, side, p, e), target != -1 && target == side, side, e)
					p.Who = impl.WhoOther
					wantIs(t, "TargetFits of others", impl.TargetFits(s, side, p, e), target != -1 && target != side, side, e)
				}
			}
		}
	}
}

func TestTargetFitsByPiece(t *testing.T) {
	for _, s := range patStates() {
		for _, kind := range []int{1, 2, 5, 6} {
			for who, fits := range map[int]bool{impl.WhoAny: true, impl.WhoOwn: true, impl.WhoOther: false} {
				e := impl.Event{Kind: kind, Src: 7, Piece: 3, Side: -1, N: 2}
				for piece, same := range map[int]bool{0: true, 3: true, 1: false, 2: false, 4: false, 5: false, 7: false, 99: false, -3: false} {
					p := impl.Pat{Kind: kind, Who: who, Piece: piece}
					wantIs(t, "TargetFits", impl.TargetFits(s, 1, p, e), same && fits, p, e)
				}
			}
			gone := impl.Event{Kind: kind, Src: 7, Piece: 4, Side: -1}
			wantIs(t, "TargetFits of a piece that is not there", impl.TargetFits(s, 1, impl.Pat{Kind: kind, Piece: 4}, gone), false)
			ofSide := impl.Event{Kind: kind, Src: 7, Side: 1, N: 2}
			wantIs(t, "TargetFits of a side", impl.TargetFits(s, 1, impl.Pat{Kind: kind, Piece: 3}, ofSide), false)
			wantIs(t, "TargetFits of a side", impl.TargetFits(s, 1, impl.Pat{Kind: kind}, ofSide), true)
		}
	}
}

func TestSourceFitsBySource(t *testing.T) {
	for _, s := range patStates() {
		for _, src := range []int{3, 4, 5, 7, 99} {
			for _, e := range []impl.Event{{Kind: 1, Src: src, Side: 1, N: 2}, {Kind: 1, Src: src, Piece: 5, Side: -1}} {
				for _, asked := range []int{0, 1, 3, 4, 5, 6, 7, 98, 99} {
					p := impl.Pat{Kind: 1, Src: asked}
					wantIs(t, "SourceFits", impl.SourceFits(s, p, e), asked == 0 || asked == src, p, e)
				}
			}
		}
	}
}

func TestSourceFitsByTraits(t *testing.T) {
	for _, s := range patStates() {
		for traits := range 64 {
			for src, fits := range map[int]bool{3: traits == 0 || traits == 1 || traits == 4 || traits == 5, 5: traits == 0, 7: true, 4: traits == 0, 99: traits == 0} {
				e := impl.Event{Kind: impl.EvHurt, Src: src, Side: 1, N: 2}
				for _, asked := range []int{0, src} {
					p := impl.Pat{Kind: impl.EvHurt, Src: asked, Traits: traits}
					wantIs(t, "SourceFits", impl.SourceFits(s, p, e), fits, p, e)
				}
				p := impl.Pat{Kind: impl.EvHurt, Src: src + 1, Traits: traits}
				wantIs(t, "SourceFits of another", impl.SourceFits(s, p, e), false, p, e)
			}
		}
	}
}

// All traits that are asked for, against all that a piece may have.
func TestSourceFitsOfAllTraits(t *testing.T) {
	for has := range 64 {
		s := stateOf(2, impl.Piece{Id: 8, Zone: 2, Traits: has})
		for asked := range 64 {
			missing := 0
			for _, trait := range []int{1, 2, 4, 8, 16, 32} {
				missing += bitOf(impl.HasTrait(impl.Piece{Traits: asked}, trait) && !impl.HasTrait(s.Ps[0], trait))
			}
			got := impl.SourceFits(s, impl.Pat{Kind: 1, Traits: asked}, impl.Event{Kind: 1, Src: 8})
			wantIs(t, "SourceFits", got, missing == 0, has, asked)
		}
	}
}

func TestSourceFitsOfOtherKinds(t *testing.T) {
	for _, s := range patStates() {
		for _, e := range kindEvents()[2:] {
			for traits := range 64 {
				wantIs(t, "SourceFits", impl.SourceFits(s, impl.Pat{Kind: e.Kind, Traits: traits}, e), traits == 0, traits, e)
				e.Src = 7
				wantIs(t, "SourceFits with a source", impl.SourceFits(s, impl.Pat{Kind: 1, Src: 7, Traits: traits}, e), traits == 0, traits, e)
				wantIs(t, "SourceFits with another source", impl.SourceFits(s, impl.Pat{Kind: 1, Src: 5}, e), false, traits, e)
				e.Src = 0
			}
		}
	}
}

// A patCase has all that is asked for; each of its misses takes as little from
// that as can be: where only PatOk or EventOk fails, all else holds.
type patCase struct {
	p      impl.Pat
	e      impl.Event
	misses map[string]func(c *patCase)
}

func patCases() []patCase {
	return []patCase{
		{impl.Pat{Kind: 1, Who: 1, Src: 7, Traits: 5, Piece: 3, Least: 6}, impl.Event{Kind: 1, Src: 7, Piece: 3, Side: -1, N: 6}, map[string]func(c *patCase){
			"too many traits for a pattern": func(c *patCase) { c.p.Traits = 64 },
			"a zone of a hurt":              func(c *patCase) { c.p.Zone = 2 },
			"a bent hurt":                   func(c *patCase) { c.e.Bent = true },
			"a side of a hurt piece":        func(c *patCase) { c.e.Side = 1 },
			"another source":                func(c *patCase) { c.p.Src = 5 },
			"less traits":                   func(c *patCase) { c.p.Src, c.e.Src = 3, 3; c.p.Traits = 7 },
			"a source that is not there":    func(c *patCase) { c.p.Src, c.e.Src = 0, 8 },
			"another piece":                 func(c *patCase) { c.p.Piece = 7 },
			"a piece that is not there":     func(c *patCase) { c.p.Piece, c.e.Piece = 0, 4 },
			"others":                        func(c *patCase) { c.p.Who = 2 },
			"one too little":                func(c *patCase) { c.e.N = 5 },
			"one more asked for":            func(c *patCase) { c.p.Least = 7 },
			"another kind":                  func(c *patCase) { c.e = impl.Event{Kind: 5, Piece: 3, Side: -1, N: 6}; c.p.Src, c.p.Traits = 0, 0 },
		}},
		{impl.Pat{Kind: 2, Who: 2, Piece: 5, Zone: 2, Least: 4}, impl.Event{Kind: 2, Piece: 5, Side: -1, Zone: 2, N: 4, Bent: true}, map[string]func(c *patCase){
			"a source of a move":         func(c *patCase) { c.p.Src = 7; c.e.Src = 7 },
			"traits of a move":           func(c *patCase) { c.p.Traits = 1 },
			"another zone":               func(c *patCase) { c.p.Zone = 3 },
			"a zone that there is not":   func(c *patCase) { c.p.Zone = 5; c.e.Zone = 5 },
			"too many counters":          func(c *patCase) { c.e.N = 100 },
			"one too little":             func(c *patCase) { c.e.N = 3 },
			"its own":                    func(c *patCase) { c.p.Who = 1 },
			"another piece":              func(c *patCase) { c.p.Piece = 7 },
			"a whom that there is not":   func(c *patCase) { c.p.Who = 3 },
			"counters to somewhere else": func(c *patCase) { c.e.Zone = 3; c.p.Zone = 0 },
			"another kind":               func(c *patCase) { c.e = impl.Event{Kind: 6, Piece: 5, Side: -1, N: 4}; c.p.Zone = 0 },
		}},
		{impl.Pat{Kind: 3, Who: 1, Least: 9}, impl.Event{Kind: 3, Side: 1, N: 9}, map[string]func(c *patCase){
			"another kind":               func(c *patCase) { c.e.Kind = 4 },
			"no kind":                    func(c *patCase) { c.e.Kind = 7; c.p.Kind = 7 },
			"a piece of a gain":          func(c *patCase) { c.p.Piece = 3; c.e.Piece = 3 },
			"another side":               func(c *patCase) { c.e.Side = 0 },
			"a side that there is not":   func(c *patCase) { c.e.Side = 3 },
			"one too little":             func(c *patCase) { c.e.N = 8 },
			"no amount":                  func(c *patCase) { c.e.N = -1; c.p.Least = -1 },
			"more than there may be":     func(c *patCase) { c.e.N = maxNum + 1 },
			"more asked for than may be": func(c *patCase) { c.p.Least = maxNum + 1; c.e.N = maxNum + 1 },
		}},
	}
}

func TestPatFitsMissesOneThing(t *testing.T) {
	for _, s := range patStates() {
		for _, c := range patCases() {
			wantIs(t, "PatFits", impl.PatFits(s, 1, c.p, c.e), true, c.p, c.e)
			for name, miss := range c.misses {
				other := c
				miss(&other)
				wantIs(t, "PatFits of "+name, impl.PatFits(s, 1, other.p, other.e), false, other.p, other.e)
			}
			for _, p := range []impl.Pat{withPatPart(c.p, patWho, -1), withPatPart(c.p, patWho, 3), withPatPart(c.p, patLeast, -1)} {
				wantIs(t, "TargetFits of no right pattern", impl.TargetFits(s, 1, p, c.e), true, p, c.e)
				wantIs(t, "SourceFits of no right pattern", impl.SourceFits(s, p, c.e), true, p, c.e)
				wantIs(t, "PatFits of no right pattern", impl.PatFits(s, 1, p, c.e), false, p, c.e)
			}
		}
	}
}

func TestPatFitsByLeast(t *testing.T) {
	s := patStates()[1]
	for _, e := range []impl.Event{{Kind: 1, Src: 3, Side: 2}, {Kind: 3, Side: 2}, {Kind: 4, Side: 2}, {Kind: 5, Piece: 7, Side: -1}, {Kind: 6, Piece: 7, Side: -1}} {
		for _, n := range []int{0, 1, 2, 99, 100, maxNum - 1, maxNum} {
			e.N = n
			for least, fits := range map[int]bool{0: true, n - 1: n > 0, n: true, n + 1: false, -1: false, -n: n == 0} {
				p := impl.Pat{Kind: e.Kind, Least: least}
				wantIs(t, "PatFits", impl.PatFits(s, 2, p, e), fits, p, e)
			}
		}
	}
}

func TestPatFitsByZone(t *testing.T) {
	for _, s := range patStates() {
		for zone := 1; zone <= 4; zone++ {
			e := impl.Event{Kind: impl.EvMove, Piece: 7, Side: -1, Zone: zone}
			for asked := -1; asked <= 6; asked++ {
				p := impl.Pat{Kind: impl.EvMove, Zone: asked}
				wantIs(t, "PatFits", impl.PatFits(s, 0, p, e), asked == 0 || asked == zone, p, e)
			}
			wantIs(t, "PatFits of a counter", impl.PatFits(s, 0, impl.Pat{Kind: impl.EvMove, Least: 1}, e), false, zone)
		}
	}
}

func TestPatFitsByKind(t *testing.T) {
	for _, s := range []impl.State{stateOf(3, idPieces(31, 42)...), stateOf(3, idPieces(42)...)} {
		for _, e := range kindEvents() {
			for kind := -1; kind <= 8; kind++ {
				wantIs(t, "PatFits", impl.PatFits(s, 1, impl.Pat{Kind: kind}, e), kind == e.Kind, kind, e)
			}
		}
	}
}

// smallPats are right, and differ in what fits of patEvents.
func smallPats() []impl.Pat {
	return rightPatsOf([patSize][]int{{1, 2, 3, 4, 5, 6}, {0, 1, 2}, {0, 3, 7}, {0, 1, 5, 7, 63}, {0, 3, 5}, {0, 2, 3, maxNum}, {0, 2, 3}})
}

func patEvents() []impl.Event {
	var l []impl.Event
	for _, n := range []int{0, 1, 2, 3, maxNum} {
		for _, src := range []int{3, 5, 7, 8} {
			l = append(l, impl.Event{Kind: 1, Src: src, N: n}, impl.Event{Kind: 1, Src: src, Side: 2, N: n}, impl.Event{Kind: 1, Src: src, Piece: 3, Side: -1, N: n}, impl.Event{Kind: 1, Src: src, Piece: 4, Side: -1, N: n})
		}
		for _, kind := range []int{2, 5, 6} {
			for _, zone := range []int{0, 2, 3} {
				l = append(l, impl.Event{Kind: kind, Piece: 3, Side: -1, N: n, Zone: zone}, impl.Event{Kind: kind, Piece: 5, Side: -1, N: n, Zone: zone})
			}
		}
		l = append(l, impl.Event{Kind: 3, Side: 1, N: n}, impl.Event{Kind: 4, Side: 2, N: n}, impl.Event{Kind: 4, N: n})
	}
	return l
}

func TestPatsAsTheDocumentSays(t *testing.T) {
	fits, pats := map[bool]int{}, append(smallPats(), fullPats()...)
	for _, s := range patStates() {
		for _, e := range patEvents() {
			for _, p := range pats {
				for _, side := range []int{-1, 1} {
					want := isAsked(s, side, p, e)
					wantIs(t, "TargetFits", impl.TargetFits(s, side, p, e), targetIsAsked(s, side, p, e), side, p, e)
					wantIs(t, "PatFits", impl.PatFits(s, side, p, e), want, side, p, e)
					fits[want]++
				}
				wantIs(t, "SourceFits", impl.SourceFits(s, p, e), sourceIsAsked(s, p, e), p, e)
			}
		}
	}
	wantIs(t, "whether many fit, and many do not", fits[true] > 1000 && fits[false] > 1000, true, fits)
}

func TestNarrowerOfItself(t *testing.T) {
	for _, p := range append(smallPats(), fullPats()...) {
		wantIs(t, "Narrower of itself", impl.Narrower(p, p), true, p)
	}
	for _, p := range wrongPats() {
		wantIs(t, "Narrower of one that is not right", impl.Narrower(p, p), false, p)
		if isKind(p.Kind) {
			wantIs(t, "Narrower than all of its kind", impl.Narrower(p, impl.Pat{Kind: p.Kind}), false, p)
			wantIs(t, "Narrower than one that is not right", impl.Narrower(fullPats()[p.Kind-1], p), false, p)
		}
	}
}

func TestNarrowerByOnePart(t *testing.T) {
	hurt, move := fullPats()[0], fullPats()[1]
	for _, x := range []struct {
		p          impl.Pat
		part       int
		more, less int
		there      bool
	}{
		{hurt, patWho, 1, 0, true}, {hurt, patWho, 2, 0, true}, {hurt, patWho, 1, 2, false}, {hurt, patWho, 2, 1, false}, {hurt, patWho, 0, 1, false},
		{hurt, patSrc, 1, 0, true}, {hurt, patSrc, 99, 0, true}, {hurt, patSrc, 3, 2, false}, {hurt, patSrc, 0, 3, false}, {hurt, patSrc, 99, 1, false},
		{hurt, patPiece, 1, 0, true}, {hurt, patPiece, 99, 0, true}, {hurt, patPiece, 3, 2, false}, {hurt, patPiece, 0, 3, false}, {hurt, patPiece, 99, 1, false},
		{hurt, patTraits, 1, 0, true}, {hurt, patTraits, 63, 32, true}, {hurt, patTraits, 5, 4, true}, {hurt, patTraits, 5, 1, true}, {hurt, patTraits, 5, 5, true},
		{hurt, patTraits, 4, 3, false}, {hurt, patTraits, 5, 3, false}, {hurt, patTraits, 0, 1, false}, {hurt, patTraits, 62, 1, false}, {hurt, patTraits, 62, 63, false},
		{hurt, patLeast, 5, 5, true}, {hurt, patLeast, 5, 4, true}, {hurt, patLeast, 5, 6, false}, {hurt, patLeast, 0, 1, false}, {hurt, patLeast, maxNum, maxNum, true}, {hurt, patLeast, maxNum - 1, maxNum, false}, {hurt, patLeast, maxNum, 0, true},
		{move, patZone, 1, 0, true}, {move, patZone, 4, 0, true}, {move, patZone, 3, 2, false}, {move, patZone, 0, 1, false}, {move, patZone, 4, 1, false},
		{impl.Pat{Who: 1, Least: 4}, patKind, 3, 4, false}, {impl.Pat{Who: 1, Least: 4}, patKind, 4, 3, false}, {impl.Pat{}, patKind, 1, 2, false}, {impl.Pat{}, patKind, 6, 5, false}, {impl.Pat{}, patKind, 5, 6, false},
	} {
		p, q := withPatPart(x.p, x.part, x.more), withPatPart(x.p, x.part, x.less)
		wantIs(t, "Narrower", impl.Narrower(p, q), x.there, p, q)
		if x.there {
			wantIs(t, "Narrower the other way round", impl.Narrower(q, p), x.more == x.less, q, p)
		}
	}
}

// For each part of each kind by itself, both ways round.
func TestNarrowerByEachPartOfEachKind(t *testing.T) {
	for _, p := range fullPats() {
		for part := patWho; part < patSize; part++ {
			q := withPatPart(p, part, 0)
			wantIs(t, "Narrower", impl.Narrower(p, q), true, p, q)
			wantIs(t, "Narrower the other way round", impl.Narrower(q, p), p == q, q, p)
		}
	}
}

func TestNarrowerAsTheDocumentSays(t *testing.T) {
	l := append(smallPats(), fullPats()...)
	narrower := map[bool]int{}
	for _, p := range l {
		for _, q := range l {
			want := asksForAll(p, q)
			wantIs(t, "Narrower", impl.Narrower(p, q), want, p, q)
			narrower[want]++
		}
	}
	wantIs(t, "whether many are narrower, and many are not", narrower[true] > 1000 && narrower[false] > 1000, true, narrower)
}

func TestNarrowerOfNoRightPat(t *testing.T) {
	for _, p := range wrongPats() {
		for _, q := range append(fullPats(), impl.Pat{Kind: 1}, impl.Pat{Kind: 2}, impl.Pat{Kind: 3}, impl.Pat{}) {
			wantIs(t, "Narrower", impl.Narrower(p, q), false, p, q)
			wantIs(t, "Narrower", impl.Narrower(q, p), false, q, p)
		}
	}
}

// Promise 7, with q less asking in each part by itself.
func TestWhatFitsMoreFitsLessInEachPart(t *testing.T) {
	for _, s := range patStates() {
		for _, x := range []struct {
			p     impl.Pat
			e     impl.Event
			parts []int
		}{
			{impl.Pat{Kind: 1, Who: 1, Src: 7, Traits: 37, Piece: 3, Least: 6}, impl.Event{Kind: 1, Src: 7, Piece: 3, Side: -1, N: 6}, []int{patWho, patSrc, patTraits, patPiece, patLeast}},
			{impl.Pat{Kind: 1, Who: 2, Src: 3, Traits: 5, Least: 1}, impl.Event{Kind: 1, Src: 3, N: 1}, []int{patWho, patSrc, patTraits, patLeast}},
			{impl.Pat{Kind: 2, Who: 2, Piece: 5, Least: 4, Zone: 2}, impl.Event{Kind: 2, Piece: 5, Side: -1, N: 4, Zone: 2}, []int{patWho, patPiece, patLeast, patZone}},
			{impl.Pat{Kind: 2, Who: 1, Piece: 3, Zone: 4}, impl.Event{Kind: 2, Piece: 3, Side: -1, Zone: 4}, []int{patWho, patPiece, patZone}},
			{impl.Pat{Kind: 3, Who: 1, Least: maxNum}, impl.Event{Kind: 3, Side: 1, N: maxNum}, []int{patWho, patLeast}},
			{impl.Pat{Kind: 4, Who: 2, Least: 9}, impl.Event{Kind: 4, N: 10}, []int{patWho, patLeast}},
			{impl.Pat{Kind: 5, Who: 1, Piece: 3, Least: 9}, impl.Event{Kind: 5, Piece: 3, Side: -1, N: 9}, []int{patWho, patPiece, patLeast}},
			{impl.Pat{Kind: 6, Who: 2, Piece: 5, Least: 9}, impl.Event{Kind: 6, Piece: 5, Side: -1, N: 9}, []int{patWho, patPiece, patLeast}},
		} {
			wantIs(t, "PatFits of what asks for more", impl.PatFits(s, 1, x.p, x.e), true, x.p, x.e)
			for _, part := range x.parts {
				for _, q := range []impl.Pat{withPatPart(x.p, part, 0), lessOf(x.p, part)} {
					wantIs(t, "Narrower", impl.Narrower(x.p, q), true, x.p, q)
					wantIs(t, "PatFits of what asks for less", impl.PatFits(s, 1, q, x.e), true, q, x.e)
				}
			}
		}
	}
}

// lessOf asks for one less of what can be asked for by degrees, else for nothing.
func lessOf(p impl.Pat, part int) impl.Pat {
	switch part {
	case patTraits:
		return withPatPart(p, part, p.Traits&(p.Traits-1))
	case patLeast:
		return withPatPart(p, part, p.Least-1)
	}
	return withPatPart(p, part, 0)
}

// Promise 7, of all small patterns and the things that fit them.
func TestWhatFitsMoreFitsLess(t *testing.T) {
	l, seen := smallPats(), 0
	for _, s := range patStates() {
		for _, e := range patEvents() {
			var fitting []impl.Pat
			for _, p := range l {
				if impl.PatFits(s, 1, p, e) {
					fitting = append(fitting, p)
				}
			}
			for _, p := range fitting {
				for _, q := range l {
					if impl.Narrower(p, q) {
						wantIs(t, "PatFits of what asks for less", impl.PatFits(s, 1, q, e), true, p, q, e)
						seen++
					}
				}
			}
		}
	}
	wantIs(t, "whether there are many", seen > 1000, true, seen)
}

// Narrower goes from one to the next, and two are each narrower than the other
// only where they ask for the same.
func TestNarrowerGoesOn(t *testing.T) {
	l := rightPatsOf([patSize][]int{{1, 2, 3}, {0, 1, 2}, {0, 3}, {0, 1, 3}, {0, 3}, {0, 2}, {0, 2}})
	for _, p := range l {
		for _, q := range l {
			if !impl.Narrower(p, q) {
				continue
			}
			wantIs(t, "Narrower the other way round", impl.Narrower(q, p), p == q, q, p)
			for _, r := range l {
				if impl.Narrower(q, r) {
					wantIs(t, "Narrower than what is less yet", impl.Narrower(p, r), true, p, q, r)
				}
			}
		}
	}
}

// They answer by the same words where something is not right.
func TestFitsOfWhatIsNotRight(t *testing.T) {
	pats := append(fullPats(), impl.Pat{Kind: 1}, impl.Pat{Kind: 2, Who: 1}, impl.Pat{Kind: 3, Who: 2}, impl.Pat{Who: 9}, impl.Pat{Src: -4, Traits: 64}, impl.Pat{Who: -1, Piece: 500})
	events := append(kindEvents(), impl.Event{}, impl.Event{Kind: 1, Src: 12, Piece: 5, Side: 9, N: -4, Zone: 8, Bent: true}, impl.Event{Kind: 9, Src: 31, Piece: 42}, impl.Event{Kind: 1, Side: 77})
	states := append(wrongStates(), rightStates()...)
	for _, s := range states {
		for _, p := range pats {
			for _, e := range events {
				for _, side := range []int{math.MinInt, -1, 1} {
					wantIs(t, "TargetFits", impl.TargetFits(s, side, p, e), targetIsAsked(s, side, p, e), s, side, p, e)
					wantIs(t, "PatFits", impl.PatFits(s, side, p, e), isAsked(s, side, p, e), s, side, p, e)
				}
				wantIs(t, "SourceFits", impl.SourceFits(s, p, e), sourceIsAsked(s, p, e), s, p, e)
			}
		}
	}
}

func TestFitsOfWrongPatsAndEvents(t *testing.T) {
	events := wrongEvents()
	for _, s := range append(patStates(), impl.State{}, impl.State{Ps: []impl.Piece{{Id: 42, Side: -1}, {Id: 31, Traits: -1, Side: 77}}}) {
		for i, p := range wrongPats() {
			for j := i % 31; j < len(events); j += 31 {
				e := events[j]
				wantIs(t, "TargetFits", impl.TargetFits(s, 1, p, e), targetIsAsked(s, 1, p, e), s, p, e)
				wantIs(t, "SourceFits", impl.SourceFits(s, p, e), sourceIsAsked(s, p, e), s, p, e)
				wantIs(t, "PatFits", impl.PatFits(s, 1, p, e), false, s, p, e)
			}
		}
	}
}

// Only WhoOwn and WhoOther ask for a side; a piece, a source and traits are
// asked for as they are told.
func TestFitsOfNoRightPatTable(t *testing.T) {
	s := stateOf(2, impl.Piece{Id: -4, Side: 1, Traits: 64 + 1}, impl.Piece{Id: 500, Side: 7, Traits: -1}, impl.Piece{Id: 6, Side: -1}, impl.Piece{Id: 8, Side: -6})
	e := impl.Event{Kind: 1, Src: -4, Piece: 500}
	for _, who := range []int{-1, 3, math.MinInt, math.MaxInt, 4294967297, 4294967298} {
		for side := -1; side <= 8; side++ {
			wantIs(t, "TargetFits of no whom", impl.TargetFits(s, side, impl.Pat{Who: who}, e), true, who, side)
		}
	}
	wantIs(t, "TargetFits of a piece of a side that there is not", impl.TargetFits(s, 7, impl.Pat{Who: 1, Piece: 500}, e), true)
	wantIs(t, "TargetFits of another piece", impl.TargetFits(s, 7, impl.Pat{Who: 1, Piece: 501}, e), false)
	wantIs(t, "TargetFits of a piece that nobody has", impl.TargetFits(s, -1, impl.Pat{Who: 1}, impl.Event{Piece: 6}), false)
	wantIs(t, "TargetFits of a piece of a side below -1", impl.TargetFits(s, -6, impl.Pat{Who: 1}, impl.Event{Piece: 8}), true)
	wantIs(t, "SourceFits of a trait past all", impl.SourceFits(s, impl.Pat{Src: -4, Traits: 64}, e), true)
	wantIs(t, "SourceFits of a trait past all that it has not", impl.SourceFits(s, impl.Pat{Traits: 128}, e), false)
	wantIs(t, "SourceFits of traits below 0", impl.SourceFits(s, impl.Pat{Traits: -1}, e), false)
	wantIs(t, "SourceFits of traits below 0", impl.SourceFits(s, impl.Pat{Traits: -1}, impl.Event{Kind: 1, Src: 500}), true)
	wantIs(t, "SourceFits of no such piece", impl.SourceFits(s, impl.Pat{Src: 9}, impl.Event{Kind: 1, Src: 9}), true)
}

// What lies behind a state's lists is nobody: neither whom it happens to nor who hurts.
func TestPatsLookAtNoRoomBehind(t *testing.T) {
	for _, base := range []impl.State{{}, impl.StateNew(2), impl.StateNew(3), stateOf(2, idPieces(50, 60)...)} {
		s := roomyState(base)
		for _, id := range []int{1, 4, 97, 98} {
			wantIs(t, "TargetFits of a piece behind", impl.TargetFits(s, 0, impl.Pat{}, impl.Event{Piece: id, Side: -1}), false, id)
			wantIs(t, "PatFits of a piece behind", impl.PatFits(s, 0, impl.Pat{Kind: 5}, impl.Event{Kind: 5, Piece: id, Side: -1}), false, id)
			wantIs(t, "SourceFits of a piece behind", impl.SourceFits(s, impl.Pat{Traits: idPiece(id).Traits}, impl.Event{Kind: 1, Src: id}), false, id)
		}
		wantIs(t, "TargetFits of a side behind", impl.TargetFits(s, 0, impl.Pat{}, impl.Event{Side: len(base.Ss)}), false, base)
	}
}

func TestAskingOfPatsLeavesTheArguments(t *testing.T) {
	for _, base := range append(rightStates(), wrongStates()...) {
		s := roomyState(base)
		before := copyState(wholeRoom(s))
		for _, p := range append(fullPats(), impl.Pat{}, impl.Pat{Kind: 1, Src: 12, Traits: 8, Piece: 4}) {
			for _, e := range []impl.Event{{Kind: 1, Src: 12, Piece: 4, Side: -1, N: 60}, {Kind: 3, Side: 1, N: 60}, {}} {
				keptPat, keptEvent := p, e
				fits := impl.PatFits(s, 1, p, e)
				impl.TargetFits(s, 1, p, e)
				impl.SourceFits(s, p, e)
				impl.PatOk(p)
				impl.Narrower(p, keptPat)
				wantIs(t, "PatFits again", impl.PatFits(s, 1, p, e), fits, s, p, e)
				wantIs(t, "whether the pattern is as it was", p == keptPat, true, p)
				wantEvent(t, "what was asked for", e, keptEvent)
				wantState(t, "what was asked in", wholeRoom(s), before)
			}
		}
	}
}
