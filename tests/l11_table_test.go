package tests

import (
	"math"
	"slices"
	"testing"

	"loop.example/g00486/impl"
)

var allKinds = kindEffects()

// effectAs is right where the Id is; what it is beside its Id hangs on the other number.
func effectAs(id int, as int) impl.Effect {
	e := withEffPart(copyEffect(allKinds[as%len(allKinds)]), effId, id)
	e.Until, e.Left = []int{-1, 0, 5, 800, 9999}[as%5], []int{9, 0, 1, maxNum}[as%4]
	return e
}

// tableAs has effects of these Ids, no two of them alike beside their Ids.
func tableAs(as int, ids ...int) []impl.Effect {
	var l []impl.Effect
	for i, id := range ids {
		l = append(l, effectAs(id, as+7*i))
	}
	return l
}

func tablesAs(idLists ...[]int) [][]impl.Effect {
	var l [][]impl.Effect
	for i, ids := range idLists {
		for as := range 3 {
			l = append(l, tableAs(11*as+i, ids...))
		}
	}
	return l
}

func rightTables() [][]impl.Effect {
	l := tablesAs(
		[]int{}, []int{1}, []int{50}, []int{99}, []int{1, 99}, []int{4, 5}, []int{17, 40}, []int{1, 2, 3}, []int{2, 50, 98}, []int{97, 98, 99},
		[]int{1, 2, 3, 4}, []int{10, 20, 30, 40}, []int{96, 97, 98, 99}, []int{1, 2, 98, 99},
		[]int{1, 2, 3, 4, 5}, []int{7, 16, 17, 18, 99}, []int{10, 20, 30, 40, 50}, []int{95, 96, 97, 98, 99},
	)
	return append(l, []impl.Effect{})
}

func idsOutOfOrder() [][]int {
	return [][]int{
		{2, 1}, {99, 1}, {1, 3, 2}, {3, 1, 2}, {2, 3, 1}, {3, 2, 1}, {2, 1, 3, 4}, {1, 3, 2, 4}, {1, 2, 4, 3}, {4, 2, 3, 1},
		{5, 4, 3, 2, 1}, {2, 1, 3, 4, 5}, {1, 2, 3, 5, 4}, {1, 4, 3, 2, 5}, {2, 3, 4, 5, 1}, {50, 10, 20, 30, 40},
	}
}

func idsTwice() [][]int {
	return [][]int{
		{5, 5}, {1, 1, 2}, {1, 2, 2}, {1, 2, 1}, {8, 8, 8}, {5, 7, 5, 9}, {5, 7, 9, 5}, {1, 5, 5, 9}, {1, 5, 7, 5}, {5, 5, 7, 7},
		{1, 1, 2, 3, 4}, {1, 2, 2, 3, 4}, {1, 2, 3, 3, 4}, {1, 2, 3, 4, 4}, {1, 2, 3, 4, 1}, {3, 5, 3, 5, 3}, {9, 9, 9, 9, 9}, {20, 10, 20, 10},
	}
}

func tooManyIds() [][]int {
	most := make([]int, 99)
	for i := range most {
		most[i] = i + 1
	}
	return [][]int{{1, 2, 3, 4, 5, 6}, {10, 20, 30, 40, 50, 60}, {94, 95, 96, 97, 98, 99}, {1, 2, 3, 4, 5, 6, 7}, {6, 5, 4, 3, 2, 1}, {1, 1, 1, 1, 1, 1}, most}
}

// notRight are effects with just one fault, of any Id that is asked for.
func notRight(id int) []impl.Effect {
	e := effectAs(id, 3)
	return []impl.Effect{
		{Id: id}, withEffPart(e, effSide, 3), withEffPart(e, effClass, 5), withEffPart(e, effClass, -1), withEffPart(e, effSrc, 100), withEffPart(e, effUntil, 10000),
		withEffPart(e, effLeft, maxNum+1), withEffPart(e, effLeft, -2), withAct(e, impl.Act{}), withPat(e, impl.Pat{}), withGuard(e, impl.Guard{Kind: 9}),
		withAct(withPat(e, impl.Pat{Kind: impl.EvMove}), impl.Act{Kind: impl.AcTwice, Side: -1}), withAct(e, partsAct(longParts()...)),
	}
}

// tablesOfWrongEffects have one that is not right at each place.
func tablesOfWrongEffects() [][]impl.Effect {
	l := tablesAs([]int{0}, []int{100}, []int{-1}, []int{0, 1, 2}, []int{98, 99, 100}, []int{math.MinInt, math.MaxInt}, []int{-2, -1}, []int{257, 4294967297})
	for _, ids := range [][]int{{5}, {1, 99}, {10, 20, 30}, {1, 2, 3, 4, 5}} {
		for at, id := range ids {
			for _, e := range notRight(id) {
				table := tableAs(at, ids...)
				table[at] = e
				l = append(l, table)
			}
		}
	}
	return l
}

func wrongTables() [][]impl.Effect {
	return slices.Concat(tablesAs(idsOutOfOrder()...), tablesAs(idsTwice()...), tablesAs(tooManyIds()...), tablesOfWrongEffects())
}

func allTables() [][]impl.Effect {
	return append(rightTables(), wrongTables()...)
}

// tableIsRight goes by the document's words.
func tableIsRight(l []impl.Effect) bool {
	if len(l) > 5 {
		return false
	}
	for i, e := range l {
		if !effectIsRight(e) || slices.ContainsFunc(l[:i], func(ahead impl.Effect) bool { return ahead.Id >= e.Id }) {
			return false
		}
	}
	return true
}

func placeAs(l []impl.Effect, id int) int {
	return slices.Index(effectIds(l), id)
}

func effectIds(l []impl.Effect) []int {
	ids := []int{}
	for _, e := range l {
		ids = append(ids, e.Id)
	}
	return ids
}

func installAs(l []impl.Effect, e impl.Effect) ([]impl.Effect, bool) {
	at := 0
	for at < len(l) && l[at].Id < e.Id {
		at++
	}
	more := slices.Concat(l[:at], []impl.Effect{e}, l[at:])
	if effectIsRight(e) && placeAs(l, e.Id) == -1 && tableIsRight(more) {
		return more, true
	}
	return l, false
}

func dropAs(l []impl.Effect, id int) ([]impl.Effect, bool) {
	at := placeAs(l, id)
	if at == -1 {
		return l, false
	}
	return slices.Concat(l[:at], l[at+1:]), true
}

func expireAs(l []impl.Effect, clock int) []impl.Effect {
	var stay []impl.Effect
	for _, e := range l {
		if stillLives(e, clock) {
			stay = append(stay, e)
		}
	}
	return stay
}

func updateAs(l []impl.Effect, e impl.Effect) []impl.Effect {
	l = slices.Clone(l)
	if at := placeAs(l, e.Id); at != -1 {
		l[at] = e
	}
	return l
}

func sameTableAsSaid(a []impl.Effect, b []impl.Effect) bool {
	return slices.EqualFunc(a, b, sameEffectAsSaid)
}

func copyTable(l []impl.Effect) []impl.Effect {
	l = slices.Clone(l)
	for i, e := range l {
		l[i] = copyEffect(e)
	}
	return l
}

// roomyTable has room behind it, and behind each List in it, and what would show in all of it.
func roomyTable(l []impl.Effect) []impl.Effect {
	room := append(copyTable(l), effectAs(3, 4), effectAs(99, 9), impl.Effect{Id: 17, Left: 5}, effectAs(1, 2))
	for i, e := range room {
		room[i] = withAct(e, roomyAct(e.Act))
	}
	return room[:len(l)]
}

// wholeTable is the list with the room behind it, and behind each List in it.
func wholeTable(l []impl.Effect) []impl.Effect {
	l = slices.Clone(l[:cap(l)])
	for i, e := range l {
		l[i] = withAct(e, wholeList(e.Act))
	}
	return l
}

func spoilTable(l []impl.Effect) {
	for i, e := range l[:cap(l)] {
		spoilEvents(e.Act.List)
		l[:cap(l)][i] = impl.Effect{Id: ^e.Id, Side: -7, Until: ^e.Until, Left: ^e.Left, Act: impl.Act{Kind: ^e.Act.Kind}}
	}
}

func wantTable(t *testing.T, name string, got []impl.Effect, want []impl.Effect, args ...any) {
	t.Helper()
	if !sameTableAsSaid(got, want) {
		t.Errorf("%s of %v is %v, want %v", name, args, got, want)
	}
}

func wantTableOk(t *testing.T, l []impl.Effect, want bool) {
	t.Helper()
	wantIs(t, "TableOk", impl.TableOk(l), want, l)
}

func wantSameTable(t *testing.T, a []impl.Effect, b []impl.Effect, want bool) {
	t.Helper()
	wantIs(t, "SameTable", impl.SameTable(a, b), want, a, b)
	wantIs(t, "SameTable the other way round", impl.SameTable(b, a), want, b, a)
}

func wantAt(t *testing.T, l []impl.Effect, id int, want int) {
	t.Helper()
	wantNumIs(t, "EffectAt", impl.EffectAt(l, id), want, effectIds(l), id)
}

func wantInstall(t *testing.T, l []impl.Effect, e impl.Effect, want []impl.Effect, is bool) {
	t.Helper()
	got, ok := impl.Install(l, e)
	wantTable(t, "Install", got, want, l, e)
	wantIs(t, "what Install says", ok, is, l, e)
}

func wantDrop(t *testing.T, l []impl.Effect, id int, want []impl.Effect, is bool) {
	t.Helper()
	got, ok := impl.Drop(l, id)
	wantTable(t, "Drop", got, want, l, id)
	wantIs(t, "what Drop says", ok, is, l, id)
}

func wantExpire(t *testing.T, l []impl.Effect, clock int, want []impl.Effect) {
	t.Helper()
	wantTable(t, "Expire", impl.Expire(l, clock), want, l, clock)
}

func wantUpdate(t *testing.T, l []impl.Effect, e impl.Effect, want []impl.Effect) {
	t.Helper()
	wantTable(t, "Update", impl.Update(l, e), want, l, e)
}

func TestTableConstants(t *testing.T) {
	wantNumIs(t, "MaxEffects", impl.MaxEffects, 5)
}

func TestTableOkByHowMany(t *testing.T) {
	wantTableOk(t, nil, true)
	wantTableOk(t, []impl.Effect{}, true)
	for as := range 35 {
		for count, ok := range []bool{true, true, true, true, true, true, false, false} {
			ids := []int{10, 20, 30, 40, 50, 60, 70}[:count]
			wantTableOk(t, tableAs(as, ids...), ok)
		}
	}
}

func TestTableOkByTheOrder(t *testing.T) {
	for _, l := range rightTables() {
		wantTableOk(t, l, true)
	}
	for _, ids := range slices.Concat(idsOutOfOrder(), idsTwice(), tooManyIds()) {
		for as := range 5 {
			wantTableOk(t, tableAs(as, ids...), false)
		}
	}
	e := effectAs(5, 2)
	wantTableOk(t, []impl.Effect{e, e}, false)
	wantTableOk(t, []impl.Effect{effectAs(4, 0), e, e}, false)
	wantTableOk(t, []impl.Effect{e, effectAs(6, 0), e}, false)
	wantTableOk(t, []impl.Effect{effectAs(1, 0), effectAs(2, 1), e, e, effectAs(6, 0)}, false)
}

func TestTableOkByEachEffect(t *testing.T) {
	for _, l := range tablesOfWrongEffects() {
		wantTableOk(t, l, false)
	}
	for _, e := range wrongEffects() {
		wantTableOk(t, []impl.Effect{e}, false)
		wantTableOk(t, []impl.Effect{effectAs(16, 1), withEffPart(e, effId, 17)}, effectIsRight(withEffPart(e, effId, 17)))
	}
	for _, e := range rightEffects() {
		wantTableOk(t, []impl.Effect{e}, true)
		wantTableOk(t, []impl.Effect{withEffPart(e, effId, 17), effectAs(18, 1)}, true)
	}
}

func TestTableOkAsTheDocumentSays(t *testing.T) {
	for a := range 5 {
		for b := range 5 {
			for c := range 5 {
				l := tableAs(a+b, a, b, c)
				wantTableOk(t, l, tableIsRight(l))
				wantTableOk(t, l[:2], tableIsRight(l[:2]))
			}
		}
	}
}

func TestSameTableOfEachOther(t *testing.T) {
	tables := append([][]impl.Effect{nil}, allTables()...)
	for i, a := range tables {
		wantSameTable(t, a, a, true)
		wantSameTable(t, a, roomyTable(a), true)
		for _, b := range tables[i:] {
			if want := sameTableAsSaid(a, b); impl.SameTable(a, b) != want || impl.SameTable(b, a) != want {
				wantSameTable(t, a, b, want)
			}
		}
	}
}

func TestSameTableOfNone(t *testing.T) {
	wantSameTable(t, nil, nil, true)
	wantSameTable(t, nil, []impl.Effect{}, true)
	wantSameTable(t, nil, tableAs(3, 1, 2)[:0], true)
	wantSameTable(t, nil, []impl.Effect{{}}, false)
	wantSameTable(t, []impl.Effect{}, tableAs(0, 1), false)
	wantSameTable(t, []impl.Effect{{}}, []impl.Effect{{}, {}}, false)
	wantSameTable(t, []impl.Effect{{}}, []impl.Effect{{Act: impl.Act{List: []impl.Event{}}}}, true)
}

// One field of one effect is another, at each place.
func TestSameTableByOneField(t *testing.T) {
	for _, l := range allTables() {
		if len(l) > 7 {
			continue
		}
		for at, e := range l {
			for _, other := range append(otherEffects(e), withEffPart(e, effId, e.Id+1)) {
				changed := copyTable(l)
				changed[at] = other
				wantSameTable(t, l, changed, false)
			}
		}
	}
}

func TestSameTableByOrderAndLength(t *testing.T) {
	for _, l := range allTables() {
		for at := range l {
			wantSameTable(t, l, l[:at], false)
			wantSameTable(t, l, slices.Concat(l[:at], l[at:at+1], l[at:]), false)
			turned := slices.Concat(l[at:], l[:at])
			wantSameTable(t, l, turned, sameTableAsSaid(l, turned))
		}
		turned := slices.Clone(l)
		slices.Reverse(turned)
		wantSameTable(t, l, turned, sameTableAsSaid(l, turned))
	}
	l := tableAs(2, 5, 9)
	wantSameTable(t, l, []impl.Effect{l[1], l[0]}, false)
}

func TestEffectAtEachPlace(t *testing.T) {
	for _, ids := range slices.Concat([][]int{{}, {1}, {99}, {1, 99}, {10, 20, 30}, {1, 2, 3, 4, 5}, {0, -1, math.MinInt, math.MaxInt, 4294967297}}, idsOutOfOrder(), idsTwice(), tooManyIds()) {
		l := tableAs(len(ids), ids...)
		for _, id := range slices.Concat(ids, edgeNums(), []int{10, 15, 20, 98, 99, 257, 4294967297}) {
			wantAt(t, l, id, slices.Index(ids, id))
		}
	}
}

func TestEffectAtTable(t *testing.T) {
	l := tableAs(1, 5, 9, 5, 2, 9, 7)
	for id, at := range map[int]int{5: 0, 9: 1, 2: 3, 7: 5, 0: -1, 1: -1, 3: -1, 6: -1, 8: -1, 10: -1, -5: -1, math.MinInt: -1, maxNum + 1: -1, math.MaxInt: -1, 4294967301: -1} {
		wantAt(t, l, id, at)
	}
	for _, id := range edgeNums() {
		wantAt(t, nil, id, -1)
		wantAt(t, []impl.Effect{}, id, -1)
		wantAt(t, []impl.Effect{{}}, id, bitOf(id == 0)-1)
		wantAt(t, []impl.Effect{{Id: ^id}, {Id: id}, {Id: id}}, id, 1)
	}
}

func TestInstallInItsPlace(t *testing.T) {
	for _, x := range []struct {
		ids  []int
		id   int
		want []int
	}{
		{nil, 1, []int{1}}, {nil, 99, []int{99}}, {[]int{5}, 4, []int{4, 5}}, {[]int{5}, 6, []int{5, 6}}, {[]int{5}, 1, []int{1, 5}}, {[]int{5}, 99, []int{5, 99}},
		{[]int{5, 9}, 2, []int{2, 5, 9}}, {[]int{5, 9}, 7, []int{5, 7, 9}}, {[]int{5, 9}, 10, []int{5, 9, 10}}, {[]int{9, 10}, 2, []int{2, 9, 10}}, {[]int{9, 11}, 10, []int{9, 10, 11}},
		{[]int{10, 20, 30}, 9, []int{9, 10, 20, 30}}, {[]int{10, 20, 30}, 11, []int{10, 11, 20, 30}}, {[]int{10, 20, 30}, 29, []int{10, 20, 29, 30}}, {[]int{10, 20, 30}, 31, []int{10, 20, 30, 31}},
		{[]int{2, 3, 4, 5}, 1, []int{1, 2, 3, 4, 5}}, {[]int{1, 3, 4, 5}, 2, []int{1, 2, 3, 4, 5}}, {[]int{1, 2, 4, 5}, 3, []int{1, 2, 3, 4, 5}}, {[]int{1, 2, 3, 5}, 4, []int{1, 2, 3, 4, 5}}, {[]int{1, 2, 3, 4}, 5, []int{1, 2, 3, 4, 5}},
	} {
		for as := range 31 {
			l, e := tableAs(as+1, x.ids...), effectAs(x.id, as)
			got, ok := impl.Install(l, e)
			wantIs(t, "what Install says", ok, true, x.ids, x.id)
			wantSet(t, "the Ids of Install", effectIds(got), x.want, x.ids, x.id)
			wantTableOk(t, got, true)
			at := slices.Index(x.want, x.id)
			wantEffect(t, "what was installed", got[at], e)
			wantTable(t, "what was there", slices.Concat(got[:at], got[at+1:]), l, x.ids, x.id)
		}
	}
}

// rightInstalls has an effect of each Id near to those of the list, and of the bounds.
func rightInstalls(l []impl.Effect) []impl.Effect {
	near := []int{1, 2, 17, 50, 98, 99}
	for _, e := range l {
		near = append(near, e.Id-1, e.Id, e.Id+1)
	}
	var es []impl.Effect
	for i, id := range near {
		es = append(es, effectAs(id, i), effectAs(id, 3*i+2))
	}
	return es
}

func TestInstallAsTheDocumentSays(t *testing.T) {
	let, not := 0, 0
	for _, l := range allTables() {
		if len(l) > 50 {
			l = l[:20]
		}
		for _, e := range rightInstalls(l) {
			want, is := installAs(l, e)
			wantInstall(t, l, e, want, is)
			let, not = let+bitOf(is), not+bitOf(!is)
		}
	}
	wantIs(t, "whether many are let in, and many are not", let > 500 && not > 1000, true, let, not)
}

func TestInstallOfFourAndOfFive(t *testing.T) {
	for _, ids := range [][]int{{10, 20, 30, 40}, {1, 2, 3, 4}, {96, 97, 98, 99}} {
		for id := 1; id <= 99; id++ {
			l, e := tableAs(id, ids...), effectAs(id, id)
			got, ok := impl.Install(l, e)
			wantIs(t, "what Install into four says", ok, !slices.Contains(ids, id), ids, id)
			if !ok {
				wantTable(t, "Install into four", got, l, ids, id)
				continue
			}
			wantTableOk(t, got, true)
			wantNumIs(t, "how many there are", len(got), 5, ids, id)
			for other := 0; other <= 100; other++ {
				wantInstall(t, got, effectAs(other, id), got, false)
			}
		}
	}
}

func TestInstallOfNoRightEffect(t *testing.T) {
	for _, l := range [][]impl.Effect{nil, {}, tableAs(1, 5), tableAs(2, 16, 18), tableAs(3, 18, 19, 20), tableAs(4, 13, 14, 15, 16)} {
		for _, e := range wrongEffects() {
			wantInstall(t, l, e, l, false)
		}
		for _, e := range slices.Concat(notRight(1), notRight(17), notRight(99), []impl.Effect{{}, {Id: 7}}) {
			wantInstall(t, l, e, l, false)
		}
		for _, id := range []int{math.MinInt, -1, 0, 100, 257, 273, maxNum, 4294967296, 4294967297, math.MaxInt} {
			wantInstall(t, l, effectAs(id, 2), l, false)
		}
	}
}

func TestInstallOfAnIdThatIsThere(t *testing.T) {
	for _, l := range rightTables() {
		for _, there := range l {
			wantInstall(t, l, there, l, false)
			for as := range 9 {
				wantInstall(t, l, effectAs(there.Id, as), l, false)
			}
		}
	}
}

// Wherever e would stand, the list is not right with it either.
func TestInstallIntoNoRightTable(t *testing.T) {
	for _, l := range wrongTables() {
		for _, id := range []int{1, 3, 6, 17, 25, 45, 77, 99} {
			wantInstall(t, l, effectAs(id, id), l, false)
		}
		wantInstall(t, l, impl.Effect{}, l, false)
	}
}

// Promise 11.
func TestWhatCameAndGoesAgain(t *testing.T) {
	first, between, last, full := 0, 0, 0, 0
	for _, l := range allTables() {
		for _, e := range append(rightInstalls(l), notRight(17)[0]) {
			more, ok := impl.Install(l, e)
			if !ok {
				wantTable(t, "what was refused", more, l, e)
				full += bitOf(len(l) == 5)
				continue
			}
			at := impl.EffectAt(more, e.Id)
			wantNumIs(t, "how many there are", len(more), len(l)+1, e)
			wantEffect(t, "what came", more[at], e)
			wantDrop(t, more, e.Id, l, true)
			back, _ := impl.Drop(more, e.Id)
			wantDrop(t, back, e.Id, l, false)
			first, last = first+bitOf(at == 0), last+bitOf(at == len(l))
			between += bitOf(0 < at && at < len(l))
		}
	}
	wantIs(t, "whether many came to each place", first > 100 && between > 100 && last > 100 && full > 100, true, first, between, last, full)
}

// Promise 11, of all right effects, and of lists that they come to at the ends and between.
func TestEachEffectThatCameAndGoesAgain(t *testing.T) {
	for _, ids := range [][]int{{}, {5}, {40}, {5, 40}, {1, 2, 3, 4}, {96, 97, 98, 99}, {2, 5, 40, 41}} {
		l := tableAs(len(ids), ids...)
		for _, e := range rightEffects() {
			more, ok := impl.Install(l, e)
			wantIs(t, "what Install says", ok, !slices.Contains(ids, e.Id), ids, e)
			if ok {
				wantDrop(t, more, e.Id, l, true)
			}
		}
	}
}

// Promise 11, the other way round: what went and comes again stands where it stood.
func TestWhatWentAndComesAgain(t *testing.T) {
	for _, l := range rightTables() {
		for at, e := range l {
			less, ok := impl.Drop(l, e.Id)
			wantIs(t, "what Drop says", ok, true, l, at)
			wantInstall(t, less, e, l, true)
		}
	}
}

// orders has the numbers from 0 on in each order.
func orders(count int) [][]int {
	if count == 0 {
		return [][]int{{}}
	}
	var l [][]int
	for _, order := range orders(count - 1) {
		for at := range count {
			l = append(l, slices.Insert(slices.Clone(order), at, count-1))
		}
	}
	return l
}

// Promise 11, of several: in whatever order they come and go, the list is the same.
func TestAllThatCameAndGoAgain(t *testing.T) {
	es := tableAs(4, 3, 8, 50, 98, 99)
	for _, order := range orders(5) {
		var l []impl.Effect
		var ahead [][]impl.Effect
		for _, at := range order {
			ahead = append(ahead, l)
			l, _ = impl.Install(l, es[at])
		}
		wantTable(t, "all that came", l, es, order)
		for i, at := range slices.Backward(order) {
			l, _ = impl.Drop(l, es[at].Id)
			wantTable(t, "what is left", l, ahead[i], order, i)
		}
		l = es
		for i, at := range order {
			l, _ = impl.Drop(l, es[at].Id)
			wantNumIs(t, "how many are left", len(l), 4-i, order)
			wantTableOk(t, l, true)
		}
	}
}

func TestDropTable(t *testing.T) {
	for _, x := range []struct {
		ids  []int
		id   int
		left []int
	}{
		{[]int{5}, 5, nil}, {[]int{5, 9}, 5, []int{1}}, {[]int{5, 9}, 9, []int{0}}, {[]int{1, 2, 3}, 1, []int{1, 2}}, {[]int{1, 2, 3}, 2, []int{0, 2}}, {[]int{1, 2, 3}, 3, []int{0, 1}},
		{[]int{10, 20, 30, 40, 50}, 10, []int{1, 2, 3, 4}}, {[]int{10, 20, 30, 40, 50}, 30, []int{0, 1, 3, 4}}, {[]int{10, 20, 30, 40, 50}, 50, []int{0, 1, 2, 3}},
		{[]int{5, 5}, 5, []int{1}}, {[]int{5, 5, 5}, 5, []int{1, 2}}, {[]int{5, 7, 5}, 5, []int{1, 2}}, {[]int{7, 5, 5}, 5, []int{0, 2}}, {[]int{7, 5, 9, 5}, 5, []int{0, 2, 3}},
		{[]int{5, 4, 3, 2, 1}, 3, []int{0, 1, 3, 4}}, {[]int{9, 1}, 9, []int{1}}, {[]int{9, 1}, 1, []int{0}}, {[]int{1, 2, 3, 4, 5, 6, 7}, 7, []int{0, 1, 2, 3, 4, 5}},
		{[]int{0}, 0, nil}, {[]int{3, -1, 100}, -1, []int{0, 2}}, {[]int{3, -1, 100}, 100, []int{0, 1}}, {[]int{math.MinInt, math.MaxInt}, math.MaxInt, []int{0}}, {[]int{math.MinInt, math.MaxInt}, math.MinInt, []int{1}},
	} {
		for as := range 9 {
			l, want := tableAs(as, x.ids...), []impl.Effect{}
			for _, at := range x.left {
				want = append(want, l[at])
			}
			wantDrop(t, l, x.id, want, true)
		}
	}
}

func TestDropAsTheDocumentSays(t *testing.T) {
	went, not := 0, 0
	for _, l := range append(allTables(), nil) {
		for _, id := range slices.Concat(effectIds(l), []int{0, 1, 2, 17, 25, 99, 100}, farNums()) {
			want, is := dropAs(l, id)
			wantDrop(t, l, id, want, is)
			went, not = went+bitOf(is), not+bitOf(!is)
		}
	}
	wantIs(t, "whether many went, and many were not there", went > 500 && not > 1000, true, went, not)
}

// One behind the other goes, the first of its Id each time, until there is none.
func TestDropOfOneIdAgainAndAgain(t *testing.T) {
	for _, ids := range idsTwice() {
		for _, id := range ids {
			l := tableAs(id, ids...)
			for range ids {
				want, is := dropAs(l, id)
				wantDrop(t, l, id, want, is)
				l, _ = impl.Drop(l, id)
			}
			wantNumIs(t, "the place of what went", impl.EffectAt(l, id), -1, ids, id)
			wantDrop(t, l, id, l, false)
		}
	}
}

func TestDropOfOneThatIsNotThere(t *testing.T) {
	for _, l := range append(allTables(), nil) {
		for _, id := range []int{math.MinInt + 1, -5, -3, 6789, maxNum, maxNum + 1, 4294967298, math.MaxInt - 1} {
			wantDrop(t, l, id, l, false)
		}
	}
}

func TestExpireByOneEffect(t *testing.T) {
	for _, base := range append(kindEffects(), impl.Effect{}) {
		for _, until := range []int{math.MinInt, -2, -1, 0, 1, 777, 9999, 10000, math.MaxInt} {
			for _, left := range []int{math.MinInt, -2, -1, 0, 1, 9, maxNum, math.MaxInt} {
				e := withEffPart(withEffPart(base, effUntil, until), effLeft, left)
				for _, clock := range []int{math.MinInt, -2, -1, 0, 1, 776, 777, 778, 9999, 10000, math.MaxInt} {
					want := []impl.Effect{e}
					if left == 0 || until != -1 && until < clock {
						want = nil
					}
					wantExpire(t, []impl.Effect{e}, clock, want)
				}
			}
		}
	}
}

func TestExpireTable(t *testing.T) {
	l := tableAs(3, 1, 2, 3, 4, 5)
	for i, x := range [][2]int{{-1, -1}, {5, 1}, {-1, 0}, {7, -1}, {6, maxNum}} {
		l[i].Act, l[i].Pat = impl.Act{Kind: impl.AcStop, Side: -1}, impl.Pat{Kind: impl.EvLose}
		l[i].Until, l[i].Left = x[0], x[1]
	}
	wantTableOk(t, l, true)
	for clock, ids := range map[int][]int{
		math.MinInt: {1, 2, 4, 5}, -1: {1, 2, 4, 5}, 0: {1, 2, 4, 5}, 4: {1, 2, 4, 5}, 5: {1, 2, 4, 5}, 6: {1, 4, 5}, 7: {1, 4}, 8: {1}, 9999: {1}, 10000: {1}, math.MaxInt: {1},
	} {
		wantSet(t, "the Ids of Expire", effectIds(impl.Expire(l, clock)), ids, clock)
		wantExpire(t, l, clock, expireAs(l, clock))
	}
}

func TestExpireAsTheDocumentSays(t *testing.T) {
	stay, went := 0, 0
	for _, l := range append(allTables(), nil) {
		clocks := []int{math.MinInt, -1, 0, 1, 9999, 10000, math.MaxInt}
		for _, e := range l {
			clocks = append(clocks, e.Until-1, e.Until, e.Until+1)
		}
		if len(clocks) > 30 {
			clocks = clocks[:30]
		}
		for _, clock := range clocks {
			want := expireAs(l, clock)
			wantExpire(t, l, clock, want)
			stay, went = stay+len(want), went+len(l)-len(want)
		}
	}
	wantIs(t, "whether many stay, and many went", stay > 1000 && went > 1000, true, stay, went)
}

// What stays of a right list is right, and all of it stays at the same time again.
func TestExpireOfRightTables(t *testing.T) {
	for _, l := range rightTables() {
		for _, clock := range []int{-1, 0, 1, 5, 6, 800, 801, 9999, 10000} {
			got := impl.Expire(l, clock)
			wantTableOk(t, got, true)
			wantExpire(t, got, clock, got)
		}
	}
}

// Of an Id that is there twice each is asked for itself.
func TestExpireOfIdsThatAreThereTwice(t *testing.T) {
	alive, over := withEffPart(effectAs(5, 0), effLeft, 4), withEffPart(effectAs(5, 3), effLeft, 0)
	alive.Until = 9
	other := withEffPart(alive, effSide, 2)
	for _, x := range []struct{ l, want []impl.Effect }{
		{[]impl.Effect{alive, over}, []impl.Effect{alive}}, {[]impl.Effect{over, alive}, []impl.Effect{alive}}, {[]impl.Effect{over, over}, nil}, {[]impl.Effect{alive, alive}, []impl.Effect{alive, alive}},
		{[]impl.Effect{alive, over, other}, []impl.Effect{alive, other}}, {[]impl.Effect{other, over, alive, over}, []impl.Effect{other, alive}}, {[]impl.Effect{over, other, over, alive}, []impl.Effect{other, alive}},
	} {
		wantExpire(t, x.l, 9, x.want)
		wantExpire(t, x.l, 10, nil)
	}
}

func TestUpdateAtEachPlace(t *testing.T) {
	for _, l := range append(rightTables(), tablesAs(tooManyIds()[0], idsOutOfOrder()[10])...) {
		for at, there := range l {
			for _, e := range slices.Concat([]impl.Effect{there, impl.Spent(there, 3)}, otherEffects(there), notRight(there.Id)) {
				if e.Id == there.Id {
					want := slices.Concat(l[:at], []impl.Effect{e}, l[at+1:])
					wantUpdate(t, l, e, want)
				}
			}
		}
	}
}

func TestUpdateAsTheDocumentSays(t *testing.T) {
	for _, l := range append(allTables(), nil) {
		if len(l) > 50 {
			l = l[:20]
		}
		for _, e := range slices.Concat(rightInstalls(l), notRight(5), notRight(1), []impl.Effect{{}, effectAs(math.MaxInt, 2), effectAs(math.MinInt, 3)}) {
			wantUpdate(t, l, e, updateAs(l, e))
		}
	}
}

func TestUpdateOfIdsThatAreThereTwice(t *testing.T) {
	for _, ids := range idsTwice() {
		for _, id := range ids {
			l := tableAs(2, ids...)
			e, first := effectAs(id, 30), slices.Index(ids, id)
			want := slices.Concat(l[:first], []impl.Effect{e}, l[first+1:])
			wantUpdate(t, l, e, want)
			wantUpdate(t, l, impl.Effect{Id: id, Left: -9}, slices.Concat(l[:first], []impl.Effect{{Id: id, Left: -9}}, l[first+1:]))
		}
	}
}

func TestUpdateOfOneThatIsNotThere(t *testing.T) {
	for _, l := range append(allTables(), nil) {
		for _, id := range []int{math.MinInt + 1, -5, -3, 6789, maxNum, 4294967298, math.MaxInt - 1} {
			wantUpdate(t, l, effectAs(id, 4), l)
			wantUpdate(t, l, impl.Effect{Id: id}, l)
		}
	}
	wantUpdate(t, nil, effectAs(5, 1), nil)
	wantUpdate(t, tableAs(1, 4, 6), effectAs(5, 1), tableAs(1, 4, 6))
	wantUpdate(t, tableAs(1, 4, 6), impl.Effect{}, tableAs(1, 4, 6))
}

// tableCalls are the calls that answer a list.
func tableCalls() map[string]func(l []impl.Effect, e impl.Effect) []impl.Effect {
	return map[string]func(l []impl.Effect, e impl.Effect) []impl.Effect{
		"Install": func(l []impl.Effect, e impl.Effect) []impl.Effect { got, _ := impl.Install(l, e); return got },
		"Drop":    func(l []impl.Effect, e impl.Effect) []impl.Effect { got, _ := impl.Drop(l, e.Id); return got },
		"Expire":  func(l []impl.Effect, e impl.Effect) []impl.Effect { return impl.Expire(l, e.Until) },
		"Update":  impl.Update,
	}
}

// partsEffect has a List.
func partsEffect(id int) impl.Effect {
	return withEffPart(effectOf(impl.EvHurt, kindActs()[impl.AcParts], impl.Guard{}), effId, id)
}

// partsTable has effects that all have a List.
func partsTable(ids ...int) []impl.Effect {
	var l []impl.Effect
	for _, id := range ids {
		l = append(l, partsEffect(id))
	}
	return l
}

// apartTables have Lists in them; what is asked of them is let in, refused, found and not found.
func apartTables() [][]impl.Effect {
	return slices.Concat(rightTables(), wrongTables()[:60], [][]impl.Effect{partsTable(), partsTable(5), partsTable(5, 9), partsTable(1, 2, 3), partsTable(1, 2, 3, 5), partsTable(1, 2, 3, 4, 5), partsTable(5, 5, 2), partsTable(9, 9, 9, 9, 9, 9, 9)})
}

func apartEffects() []impl.Effect {
	return []impl.Effect{partsEffect(5), partsEffect(9), partsEffect(6), withEffPart(partsEffect(5), effSide, 9), withEffPart(partsEffect(5), effUntil, 10000), effectAs(1, 4), {}}
}

func TestTablesShareNoMemory(t *testing.T) {
	for name, call := range tableCalls() {
		for _, base := range apartTables() {
			for _, of := range apartEffects() {
				l, e := roomyTable(base), withAct(of, roomyAct(of.Act))
				before, beforeE := copyTable(wholeTable(l)), copyEffect(withAct(e, wholeList(e.Act)))
				first, second := call(l, e), call(l, e)
				want := copyTable(second)
				spoilTable(first)
				wantTable(t, name+", what it was asked of, the answer written over,", wholeTable(l), before, e)
				wantEffect(t, name+", the effect it was asked for, the answer written over,", withAct(e, wholeList(e.Act)), beforeE)
				wantTable(t, name+" with an earlier answer written over", second, want, e)
				spoilTable(l)
				spoilEvents(e.Act.List)
				wantTable(t, name+" with its arguments written over", second, want, base, of)
			}
		}
	}
}

// oneList gives all effects the very same List, or parts of it that lie over each other.
func oneList(l []impl.Effect, shift bool) []impl.Effect {
	l = copyTable(l)
	all := kindEvents()
	for i := range l {
		l[i].Act.List = all[:3]
		if shift {
			l[i].Act.List = all[i%3 : i%3+2]
		}
	}
	return l
}

func TestListsOfOneAnswerShareNoMemory(t *testing.T) {
	for name, call := range tableCalls() {
		for _, base := range apartTables() {
			for _, shift := range []bool{false, true} {
				for _, id := range []int{1, 5, 6, 9, 77} {
					l := oneList(base, shift)
					e := withAct(partsEffect(id), impl.Act{Kind: impl.AcParts, Side: -1, List: oneList(partsTable(id), false)[0].Act.List})
					if len(l) > 0 {
						e.Act.List = l[0].Act.List
					}
					got := call(l, e)
					for at := range got {
						want := copyTable(got)
						spoilEvents(got[at].Act.List)
						want[at] = got[at]
						wantTable(t, name+" with one List written over", got, want, id, at)
					}
				}
			}
		}
	}
}

func TestTablesLookAtNoRoomBehind(t *testing.T) {
	for _, base := range append(allTables(), nil) {
		if len(base) > 50 {
			continue
		}
		wantTableOk(t, roomyTable(base), tableIsRight(base))
		for _, id := range append(effectIds(base), 3, 17, 99) {
			wantAt(t, roomyTable(base), id, placeAs(base, id))
		}
		for name, call := range tableCalls() {
			for _, e := range append(apartEffects(), effectAs(3, 1), effectAs(99, 2)) {
				wantTable(t, name+" with room behind", call(roomyTable(base), withAct(e, roomyAct(e.Act))), call(base, e), base, e)
			}
		}
	}
}

func TestAskingOfTablesLeavesTheArguments(t *testing.T) {
	for _, base := range append(allTables(), nil) {
		for _, of := range apartEffects() {
			l, e := roomyTable(base), withAct(of, roomyAct(of.Act))
			before, beforeE := copyTable(wholeTable(l)), copyEffect(withAct(e, wholeList(e.Act)))
			impl.TableOk(l)
			impl.SameTable(l, base)
			impl.SameTable(base, l)
			impl.EffectAt(l, e.Id)
			for _, call := range tableCalls() {
				call(l, e)
			}
			wantTable(t, "what was asked of", wholeTable(l), before, base)
			wantEffect(t, "what was asked for", withAct(e, wholeList(e.Act)), beforeE)
		}
	}
}

// A map hands out what it has in another order each time; no answer shows it.
func TestTablesAnswerTheSameAtEachCall(t *testing.T) {
	for name, call := range tableCalls() {
		for _, base := range append(tablesAs(tooManyIds()...), tablesAs(idsTwice()...)...) {
			for _, e := range []impl.Effect{effectAs(5, 2), effectAs(77, 13), effectAs(1, 4)} {
				want := call(base, e)
				for range 10 {
					wantTable(t, name+" once more", call(base, e), want, effectIds(base), e)
				}
			}
		}
	}
}
