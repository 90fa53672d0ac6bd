package tests

import (
	"bytes"
	"math"
	"math/big"
	"slices"
	"testing"

	"loop.example/g00486/impl"
)

const pieceSize = 52

// A piecePart is one number of a piece, with its bounds as the document has them.
type piecePart struct {
	name  string
	least int
	most  int
	field func(p *impl.Piece) *int
}

func pieceParts() []piecePart {
	return []piecePart{
		{"Id", 1, 99, func(p *impl.Piece) *int { return &p.Id }},
		{"Owner", 0, 2, func(p *impl.Piece) *int { return &p.Owner }},
		{"Side", 0, 2, func(p *impl.Piece) *int { return &p.Side }},
		{"Zone", 1, 4, func(p *impl.Piece) *int { return &p.Zone }},
		{"Stamp", 0, 9999, func(p *impl.Piece) *int { return &p.Stamp }},
		{"Power", 0, 999, func(p *impl.Piece) *int { return &p.Power }},
		{"Tough", 0, 999, func(p *impl.Piece) *int { return &p.Tough }},
		{"Traits", 0, 63, func(p *impl.Piece) *int { return &p.Traits }},
		{"Plus", 0, maxNum, func(p *impl.Piece) *int { return &p.Plus }},
		{"Minus", 0, maxNum, func(p *impl.Piece) *int { return &p.Minus }},
		{"Marks", 0, maxNum, func(p *impl.Piece) *int { return &p.Marks }},
	}
}

// fieldPiece has no two numbers alike, so that none can stand for another.
func fieldPiece() impl.Piece {
	return impl.Piece{Id: 12, Owner: 1, Side: 0, Zone: 2, Stamp: 345, Power: 6, Tough: 7, Traits: 40, Plus: 8, Minus: 9, Marks: 10, Deadly: true, Bent: true}
}

func plainPiece(zone int) impl.Piece {
	return impl.Piece{Id: 12, Owner: 1, Side: 1, Zone: zone, Stamp: 345, Power: 6, Tough: 7, Traits: 40}
}

func withPart(p impl.Piece, part piecePart, n int) impl.Piece {
	*part.field(&p) = n
	return p
}

// fieldOnly holds pieces that are right on the field alone, each for one reason.
func fieldOnly(zone int) []impl.Piece {
	p := plainPiece(zone)
	own := func(side int) impl.Piece { q := p; q.Side = side; return q }
	plus := func(n int) impl.Piece { q := p; q.Plus = n; return q }
	minus := func(n int) impl.Piece { q := p; q.Minus = n; return q }
	marks := func(n int) impl.Piece { q := p; q.Marks = n; return q }
	deadly, bent := p, p
	deadly.Deadly, bent.Bent = true, true
	return []impl.Piece{own(0), own(2), plus(1), plus(maxNum), minus(1), minus(maxNum), marks(1), marks(maxNum), deadly, bent}
}

func rightPieces() []impl.Piece {
	l := []impl.Piece{
		fieldPiece(), {Id: 1, Zone: 2},
		{Id: 99, Owner: 2, Side: 2, Zone: 2, Stamp: 9999, Power: 999, Tough: 999, Traits: 63, Plus: maxNum, Minus: maxNum, Marks: maxNum, Deadly: true, Bent: true},
		{Id: 99, Owner: 2, Side: 2, Zone: 4, Stamp: 9999, Power: 999, Tough: 999, Traits: 63},
	}
	for _, zone := range []int{1, 2, 3, 4} {
		l = append(l, plainPiece(zone), impl.Piece{Id: 1, Zone: zone})
	}
	for _, part := range pieceParts() {
		if part.name != "Zone" {
			l = append(l, withPart(fieldPiece(), part, part.least), withPart(fieldPiece(), part, part.most))
		}
	}
	return append(l, fieldOnly(2)...)
}

// wrongPieces has each number just outside its bounds, and what no zone but the field has.
func wrongPieces() []impl.Piece {
	l := []impl.Piece{{}, {Id: 1}, {Zone: 2}}
	for _, part := range pieceParts() {
		for _, n := range []int{part.least - 1, part.most + 1, math.MinInt, math.MaxInt, -maxNum, -maxNum - 1, maxNum + 1, part.least + 4294967296, part.least - 4294967296} {
			l = append(l, withPart(fieldPiece(), part, n), withPart(plainPiece(2), part, n), withPart(plainPiece(3), part, n))
		}
	}
	for _, zone := range []int{1, 3, 4} {
		l = append(l, fieldOnly(zone)...)
	}
	return l
}

func bitOf(flag bool) int {
	if flag {
		return 1
	}
	return 0
}

func rawPiece(p impl.Piece) []int {
	return []int{p.Id, p.Owner, p.Side, p.Zone, p.Stamp, p.Power, p.Tough, p.Traits, p.Plus, p.Minus, p.Marks, bitOf(p.Deadly), bitOf(p.Bent)}
}

func rawBytes(nums []int) []byte {
	var b []byte
	for _, n := range nums {
		b = append(b, wideBytes(n)...)
	}
	return b
}

func wantGetPiece(t *testing.T, b []byte, at int, p impl.Piece, next int) {
	t.Helper()
	if got, gotNext, ok := impl.GetPiece(b, at); got != p || gotNext != next || !ok {
		t.Errorf("GetPiece of %x at %d is %v, %d and %v, want %v, %d and true", b, at, got, gotNext, ok, p, next)
	}
}

func wantNoGetPiece(t *testing.T, b []byte, at int) {
	t.Helper()
	if got, next, ok := impl.GetPiece(b, at); got != (impl.Piece{}) || next != 0 || ok {
		t.Errorf("GetPiece of %x at %d is %v, %d and %v, want the zero one, 0 and false", b, at, got, next, ok)
	}
}

func wantPiece(t *testing.T, name string, got impl.Piece, want impl.Piece) {
	t.Helper()
	if got != want {
		t.Errorf("%s is %v, want %v", name, got, want)
	}
}

func TestPieceConstants(t *testing.T) {
	zones := []int{impl.ZnHand, impl.ZnField, impl.ZnYard, impl.ZnGone}
	traits := []int{impl.TrLink, impl.TrWither, impl.TrDeadly, impl.TrFirm, impl.TrLast, impl.TrHurt}
	if !slices.Equal(zones, []int{1, 2, 3, 4}) || !slices.Equal(traits, []int{1, 2, 4, 8, 16, 32}) {
		t.Errorf("zones are %v, traits %v", zones, traits)
	}
}

func TestPieceOk(t *testing.T) {
	for _, p := range rightPieces() {
		wantIs(t, "PieceOk", impl.PieceOk(p), true, p)
	}
	for _, p := range wrongPieces() {
		wantIs(t, "PieceOk", impl.PieceOk(p), false, p)
	}
}

func TestPieceOkAtEachBound(t *testing.T) {
	for _, part := range pieceParts() {
		base := fieldPiece()
		if part.name == "Zone" {
			base = plainPiece(2)
		}
		for _, n := range append(edgeNums(), part.least-1, part.least, part.least+1, part.most-1, part.most, part.most+1) {
			p := withPart(base, part, n)
			wantIs(t, "PieceOk by its "+part.name, impl.PieceOk(p), part.least <= n && n <= part.most, p)
		}
	}
	for n := -70; n <= 140; n++ {
		p := fieldPiece()
		p.Traits = n
		wantIs(t, "PieceOk by its Traits", impl.PieceOk(p), 0 <= n && n <= 63, p)
	}
}

func TestPieceOffTheField(t *testing.T) {
	for _, zone := range []int{1, 3, 4} {
		wantIs(t, "PieceOk", impl.PieceOk(plainPiece(zone)), true, zone)
		for _, p := range fieldOnly(zone) {
			wantIs(t, "PieceOk", impl.PieceOk(p), false, p)
		}
	}
	for _, p := range fieldOnly(2) {
		wantIs(t, "PieceOk", impl.PieceOk(p), true, p)
	}
	for owner := range 3 {
		for side := range 3 {
			for zone := 1; zone <= 4; zone++ {
				p := impl.Piece{Id: 7, Owner: owner, Side: side, Zone: zone}
				wantIs(t, "PieceOk", impl.PieceOk(p), zone == 2 || owner == side, p)
			}
		}
	}
}

func TestSamePiece(t *testing.T) {
	same := func(a impl.Piece, b impl.Piece, want bool) {
		wantIs(t, "SamePiece", impl.SamePiece(a, b), want, a, b)
		wantIs(t, "SamePiece", impl.SamePiece(b, a), want, b, a)
	}
	for _, p := range append(rightPieces(), impl.Piece{}, impl.Piece{Id: math.MinInt, Zone: 9, Marks: math.MaxInt}) {
		same(p, p, true)
		for _, part := range pieceParts() {
			n := *part.field(&p)
			for _, other := range []int{n + 1, n - 1, ^n, n ^ 4294967296} {
				same(p, withPart(p, part, other), false)
			}
		}
		deadly, bent := p, p
		deadly.Deadly, bent.Bent = !p.Deadly, !p.Bent
		same(p, deadly, false)
		same(p, bent, false)
		same(deadly, bent, false)
	}
}

func TestHasTrait(t *testing.T) {
	for traits := range 64 {
		for place := range 6 {
			trait := []int{impl.TrLink, impl.TrWither, impl.TrDeadly, impl.TrFirm, impl.TrLast, impl.TrHurt}[place]
			there := bits(traits)[5-place] == '1'
			wantIs(t, "HasTrait", impl.HasTrait(impl.Piece{Id: 1, Zone: 2, Traits: traits}, trait), there, traits, trait)
		}
		for _, trait := range append(edgeNums(), noTraits()...) {
			if !slices.Contains([]int{1, 2, 4, 8, 16, 32}, trait) {
				wantIs(t, "HasTrait", impl.HasTrait(impl.Piece{Id: 1, Zone: 2, Traits: traits}, trait), false, traits, trait)
			}
		}
	}
	wantIs(t, "HasTrait", impl.HasTrait(impl.Piece{}, impl.TrLink), false, "the zero piece")
	wantIs(t, "HasTrait off the field", impl.HasTrait(plainPiece(3), impl.TrFirm), true, plainPiece(3))
}

// bits writes the traits out as digits, so that no trait is told by the same sum as in the program.
func bits(traits int) []byte {
	digits := []byte("000000")
	for place := 5; place >= 0; place-- {
		digits[place] = byte('0' + traits%2)
		traits /= 2
	}
	return digits
}

func noTraits() []int {
	l := []int{0, 64, 128, 256, 4294967297, -64, -32, -16, -8, -4, -2, -1}
	for n := 1; n < 200; n++ {
		if !slices.Contains([]int{1, 2, 4, 8, 16, 32}, n) {
			l = append(l, n, -n)
		}
	}
	return l
}

func TestPowerAndToughTable(t *testing.T) {
	for _, x := range []struct{ n, plus, minus, want int }{
		{0, 0, 0, 0}, {5, 0, 0, 5}, {5, 3, 0, 8}, {5, 0, 3, 2}, {5, 3, 3, 5}, {5, 3, 9, -1}, {0, 0, 1, -1}, {999, 1, 0, 1000},
		{999, maxNum, 0, maxNum}, {0, maxNum, 0, maxNum}, {0, 0, maxNum, -maxNum}, {1, 0, maxNum, -maxNum + 1},
		{1, maxNum, 1, maxNum - 1}, {999, maxNum, maxNum, 0}, {0, maxNum, maxNum, 0}, {1, maxNum - 1, maxNum, 0}, {999, maxNum, 999, maxNum - 999},
		{-1, 0, maxNum, -maxNum}, {-5, -maxNum, -maxNum, 0},
	} {
		p := impl.Piece{Id: 1, Zone: 2, Power: x.n, Tough: 77, Plus: x.plus, Minus: x.minus, Marks: 3}
		q := impl.Piece{Id: 1, Zone: 2, Power: 77, Tough: x.n, Plus: x.plus, Minus: x.minus, Marks: 3}
		if impl.PowerOf(p) != x.want || impl.ToughOf(q) != x.want {
			t.Errorf("PowerOf and ToughOf of %d with %d and %d are %d and %d, want %d", x.n, x.plus, x.minus, impl.PowerOf(p), impl.ToughOf(q), x.want)
		}
	}
	if p := fieldPiece(); impl.PowerOf(p) != 5 || impl.ToughOf(p) != 6 {
		t.Errorf("PowerOf and ToughOf of %v are %d and %d", p, impl.PowerOf(p), impl.ToughOf(p))
	}
}

func TestPowerAndToughAgainstWideNumbers(t *testing.T) {
	for _, n := range append(edgeNums(), 998, 999, 1000) {
		for _, plus := range edgeNums() {
			for _, minus := range edgeNums() {
				more := bigBound(new(big.Int).Add(bigOf(n), bigOf(plus)))
				want := bigBound(new(big.Int).Sub(more, bigOf(minus)))
				wantBig(t, "PowerOf", impl.PowerOf(impl.Piece{Power: n, Tough: 4, Plus: plus, Minus: minus}), want, n, plus, minus)
				wantBig(t, "ToughOf", impl.ToughOf(impl.Piece{Power: 4, Tough: n, Plus: plus, Minus: minus}), want, n, plus, minus)
			}
		}
	}
}

func TestPutPieceTable(t *testing.T) {
	want := "\x80\x00\x00\x0c\x80\x00\x00\x01\x80\x00\x00\x00\x80\x00\x00\x02\x80\x00\x01\x59\x80\x00\x00\x06\x80\x00\x00\x07" +
		"\x80\x00\x00\x28\x80\x00\x00\x08\x80\x00\x00\x09\x80\x00\x00\x0a\x80\x00\x00\x01\x80\x00\x00\x01"
	wantBytes(t, "PutPiece", impl.PutPiece(nil, fieldPiece()), []byte(want))
	deadly, bent := fieldPiece(), fieldPiece()
	deadly.Bent, bent.Deadly = false, false
	wantBytes(t, "PutPiece", impl.PutPiece(nil, deadly), []byte(want[:48]+"\x80\x00\x00\x00"))
	wantBytes(t, "PutPiece", impl.PutPiece(nil, bent), []byte(want[:44]+"\x80\x00\x00\x00\x80\x00\x00\x01"))
}

func TestPieceComesBack(t *testing.T) {
	for _, p := range rightPieces() {
		want := rawBytes(rawPiece(p))
		for _, b := range behind() {
			got := impl.PutPiece(b, p)
			wantBytes(t, "PutPiece", got, slices.Concat(b, want))
			wantGetPiece(t, got, len(b), p, len(b)+pieceSize)
			for _, more := range behind() {
				wantGetPiece(t, slices.Concat(got, more), len(b), p, len(b)+pieceSize)
			}
		}
	}
}

func TestPiecesBehindOneAnother(t *testing.T) {
	b := []byte{1, 2, 3}
	for _, p := range rightPieces() {
		b = impl.PutPiece(b, p)
	}
	at := 3
	for _, p := range rightPieces() {
		wantGetPiece(t, b, at, p, at+pieceSize)
		at += pieceSize
	}
	if at != len(b) {
		t.Errorf("the pieces end at %d of %d", at, len(b))
	}
	wantNoGetPiece(t, b, at)
}

func TestPutPieceOfNoRightPiece(t *testing.T) {
	for _, p := range wrongPieces() {
		for _, b := range behind() {
			wantBytes(t, "PutPiece of no right piece", impl.PutPiece(b, p), b)
		}
	}
}

func TestGetPieceOfNoPlace(t *testing.T) {
	one := impl.PutPiece(nil, fieldPiece())
	for _, b := range [][]byte{nil, {}, {128}, one, slices.Concat(one, one)} {
		for _, at := range []int{
			math.MinInt, math.MinInt + 1, math.MinInt + pieceSize, -maxNum, -pieceSize, -4, -2, -1,
			len(b), len(b) + 1, len(b) + 4, len(b) + pieceSize, 4294967296, math.MaxInt - pieceSize, math.MaxInt - 4, math.MaxInt - 1, math.MaxInt,
		} {
			wantNoGetPiece(t, b, at)
		}
	}
}

func TestGetPieceCutShort(t *testing.T) {
	for _, p := range []impl.Piece{fieldPiece(), plainPiece(1), {Id: 1, Zone: 2}} {
		b := impl.PutPiece([]byte{0, 3}, p)
		for size := range len(b) {
			// The spare room behind has the rest; it is not to be read.
			wantNoGetPiece(t, b[:size], 2)
			wantNoGetPiece(t, slices.Clone(b[:size]), 2)
		}
		for at := range len(b) {
			if at != 2 {
				wantNoGetPiece(t, b, at)
			}
		}
	}
}

func TestGetPieceOfNumbersThatNoPieceHas(t *testing.T) {
	for _, p := range wrongPieces() {
		nums := rawPiece(p)
		if slices.Equal(nums, bounded(nums)) {
			wantNoGetPiece(t, rawBytes(nums), 0)
			wantNoGetPiece(t, slices.Concat([]byte{5}, rawBytes(nums), []byte{6}), 1)
		}
	}
	for _, p := range []impl.Piece{fieldPiece(), plainPiece(2), plainPiece(4)} {
		for place := range 13 {
			b := impl.PutPiece(nil, p)
			copy(b[4*place:], []byte{0, 0, 0, 0})
			wantNoGetPiece(t, b, 0)
		}
	}
}

func TestGetPieceOfNoFlag(t *testing.T) {
	for _, p := range []impl.Piece{fieldPiece(), plainPiece(2), plainPiece(4)} {
		for _, place := range []int{11, 12} {
			for _, n := range []int{-maxNum, -256, -2, -1, 2, 3, 255, 256, 257, 65537, maxNum} {
				nums := rawPiece(p)
				nums[place] = n
				wantNoGetPiece(t, rawBytes(nums), 0)
			}
		}
	}
}

func TestGetPieceOffTheField(t *testing.T) {
	for _, p := range fieldOnly(2) {
		wantGetPiece(t, rawBytes(rawPiece(p)), 0, p, pieceSize)
		for _, zone := range []int{1, 3, 4} {
			p.Zone = zone
			wantNoGetPiece(t, rawBytes(rawPiece(p)), 0)
		}
	}
}

func TestMovedIsAsPrinted(t *testing.T) {
	want := impl.Piece{Id: 12, Owner: 1, Side: 1, Zone: 3, Stamp: 400, Power: 6, Tough: 7, Traits: 40}
	wantPiece(t, "Moved", impl.Moved(fieldPiece(), 3, 400), want)
	for _, p := range rightPieces() {
		for zone := 1; zone <= 4; zone++ {
			for _, stamp := range []int{0, 1, 345, 9998, 9999} {
				got := impl.Moved(p, zone, stamp)
				want := impl.Piece{Id: p.Id, Owner: p.Owner, Side: p.Owner, Zone: zone, Stamp: stamp, Power: p.Power, Tough: p.Tough, Traits: p.Traits}
				wantPiece(t, "Moved", got, want)
				wantIs(t, "PieceOk of Moved", impl.PieceOk(got), true, p, zone, stamp)
				wantGetPiece(t, impl.PutPiece(nil, got), 0, got, pieceSize)
				wantPiece(t, "Moved of Moved", impl.Moved(got, zone, stamp), got)
				wantPiece(t, "Moved back", impl.Moved(impl.Moved(p, 4, 7), zone, stamp), got)
				if impl.PowerOf(got) != p.Power || impl.ToughOf(got) != p.Tough {
					t.Errorf("Moved of %v is as strong as %d, as tough as %d", p, impl.PowerOf(got), impl.ToughOf(got))
				}
			}
		}
	}
}

// The document names no answer of its own for these, so the piece is where and since when it is told to be, and is no right one.
func TestMovedToNoZoneOrTime(t *testing.T) {
	for _, p := range []impl.Piece{fieldPiece(), plainPiece(1)} {
		for _, zone := range []int{math.MinInt, -1, 0, 5, 6, math.MaxInt} {
			wantMovedWrong(t, p, zone, 9)
		}
		for zone := 1; zone <= 4; zone++ {
			for _, stamp := range []int{math.MinInt, -1, 10000, math.MaxInt} {
				wantMovedWrong(t, p, zone, stamp)
			}
		}
		wantMovedWrong(t, p, 0, 10000)
	}
}

func wantMovedWrong(t *testing.T, p impl.Piece, zone int, stamp int) {
	t.Helper()
	want := plainPiece(zone)
	want.Stamp = stamp
	got := impl.Moved(p, zone, stamp)
	wantPiece(t, "Moved", got, want)
	wantIs(t, "PieceOk of Moved", impl.PieceOk(got), false, p, zone, stamp)
	wantBytes(t, "PutPiece of Moved", impl.PutPiece([]byte{1, 2}, got), []byte{1, 2})
}

func TestPiecesShareNoMemory(t *testing.T) {
	for _, p := range []impl.Piece{fieldPiece(), plainPiece(3), {}, {Id: 100, Zone: 2}} {
		wantApart(t, "PutPiece", func(b []byte) []byte { return impl.PutPiece(b, p) })
	}
	room := append(impl.PutPiece([]byte{4}, fieldPiece()), bytes.Repeat([]byte{77}, 60)...)
	before := slices.Clone(room)
	for at := -1; at <= 1+pieceSize; at++ {
		impl.GetPiece(room[:1+pieceSize], at)
	}
	wantBytes(t, "what was read", room, before)
}
