package tests

import (
	"bytes"
	"encoding/binary"
	"math"
	"math/big"
	"slices"
	"testing"

	"loop.example/g00486/impl"
)

// behind holds what a number or a list may be put behind.
func behind() [][]byte {
	return [][]byte{nil, {}, {0}, {9}, {0, 0, 0, 0}, {255, 255, 255, 255, 255}, []byte("what stood there"), bytes.Repeat([]byte{1, 2, 3}, 400)}
}

// wideBytes works without a width, so that it cannot share a wrap-round with the program.
func wideBytes(n int) []byte {
	return new(big.Int).Add(bigOf(n), big.NewInt(maxNum+1)).FillBytes(make([]byte, 4))
}

func wideList(l []int) []byte {
	b := []byte{byte(len(l))}
	for _, n := range l {
		b = append(b, wideBytes(n)...)
	}
	return b
}

func bounded(l []int) []int {
	var out []int
	for _, n := range l {
		out = append(out, int(bigOf(n).Int64()))
	}
	return out
}

// numsOf goes round all edges, so that a list of 255 has each of them several times.
func numsOf(count int) []int {
	l := make([]int, count)
	for i := range l {
		l[i] = edgeNums()[(i*7+3)%len(edgeNums())]
	}
	return l
}

func lists() [][]int {
	return [][]int{
		nil, {}, {0}, {-1}, {maxNum}, {-maxNum}, {maxNum + 1}, {-maxNum - 1}, {math.MaxInt}, {math.MinInt},
		{1, -1}, {3, 2, 1}, {5, 5, 5}, edgeNums(), numsOf(1), numsOf(2), numsOf(128), numsOf(254), numsOf(255),
	}
}

func wantBytes(t *testing.T, name string, got []byte, want []byte) {
	t.Helper()
	if !bytes.Equal(got, want) {
		t.Errorf("%s is %x, want %x", name, got, want)
	}
}

func wantGetNum(t *testing.T, b []byte, at int, n int, next int) {
	t.Helper()
	if gotN, gotNext, ok := impl.GetNum(b, at); gotN != n || gotNext != next || !ok {
		t.Errorf("GetNum of %x at %d is %d, %d and %v, want %d, %d and true", b, at, gotN, gotNext, ok, n, next)
	}
}

func wantNoGetNum(t *testing.T, b []byte, at int) {
	t.Helper()
	if n, next, ok := impl.GetNum(b, at); n != 0 || next != 0 || ok {
		t.Errorf("GetNum of %x at %d is %d, %d and %v, want 0, 0 and false", b, at, n, next, ok)
	}
}

func wantGetList(t *testing.T, b []byte, at int, l []int, next int) {
	t.Helper()
	if got, gotNext, ok := impl.GetList(b, at); !slices.Equal(got, l) || gotNext != next || !ok {
		t.Errorf("GetList of %x at %d is %v, %d and %v, want %v, %d and true", b, at, got, gotNext, ok, l, next)
	}
}

func wantNoGetList(t *testing.T, b []byte, at int) {
	t.Helper()
	if l, next, ok := impl.GetList(b, at); len(l) != 0 || next != 0 || ok {
		t.Errorf("GetList of %x at %d is %v, %d and %v, want nothing, 0 and false", b, at, l, next, ok)
	}
}

func wantNoUnpacked(t *testing.T, b []byte) {
	t.Helper()
	if l, ok := impl.Unpacked(b); len(l) != 0 || ok {
		t.Errorf("Unpacked of %x is %v and %v, want nothing and false", b, l, ok)
	}
}

func TestPutNumTable(t *testing.T) {
	for _, x := range []struct {
		n    int
		want string
	}{
		{0, "\x80\x00\x00\x00"}, {1, "\x80\x00\x00\x01"}, {-1, "\x7f\xff\xff\xff"},
		{256, "\x80\x00\x01\x00"}, {-256, "\x7f\xff\xff\x00"}, {65536, "\x80\x01\x00\x00"},
		{0x01020304, "\x81\x02\x03\x04"}, {-0x01020304, "\x7e\xfd\xfc\xfc"},
		{maxNum - 1, "\xff\xff\xff\xfe"}, {maxNum, "\xff\xff\xff\xff"}, {maxNum + 1, "\xff\xff\xff\xff"},
		{-maxNum + 1, "\x00\x00\x00\x02"}, {-maxNum, "\x00\x00\x00\x01"}, {-maxNum - 1, "\x00\x00\x00\x01"},
		{math.MaxInt, "\xff\xff\xff\xff"}, {math.MinInt, "\x00\x00\x00\x01"},
	} {
		for _, b := range behind() {
			wantBytes(t, "PutNum of "+impl.NumText(x.n), impl.PutNum(b, x.n), []byte(string(b)+x.want))
		}
	}
}

func TestNumComesBack(t *testing.T) {
	back := func(n int) {
		for _, b := range [][]byte{nil, {7, 0, 255}} {
			got := impl.PutNum(b, n)
			wantBytes(t, "PutNum of "+impl.NumText(n), got, append(slices.Clone(b), wideBytes(n)...))
			wantGetNum(t, got, len(b), int(bigOf(n).Int64()), len(b)+4)
		}
	}
	for _, n := range edgeNums() {
		back(n)
	}
	for n := -3000; n <= 3000; n++ {
		back(n)
		back(maxNum + n)
		back(-maxNum + n)
	}
	for n := -maxNum; n <= maxNum; n += 999983 {
		back(n)
	}
}

func TestGetNumAmongOtherBytes(t *testing.T) {
	var b []byte
	for _, n := range edgeNums() {
		b = impl.PutNum(b, n)
	}
	for i, n := range edgeNums() {
		wantGetNum(t, b, 4*i, int(bigOf(n).Int64()), 4*i+4)
	}
	for at := 0; at+4 <= len(b); at++ {
		word := binary.BigEndian.Uint32(b[at:])
		if word == 0 {
			wantNoGetNum(t, b, at)
			continue
		}
		wantGetNum(t, b, at, int(word)-maxNum-1, at+4)
	}
}

func TestGetNumOfNoPlace(t *testing.T) {
	for size := 0; size < 12; size++ {
		b := bytes.Repeat([]byte{129}, size)
		for _, at := range []int{math.MinInt, math.MinInt + 1, math.MinInt + 4, -maxNum, -5, -4, -3, -2, -1} {
			wantNoGetNum(t, b, at)
		}
		for at := 0; at < 20; at++ {
			if at+4 <= size {
				wantGetNum(t, b, at, 0x01818181, at+4)
				continue
			}
			wantNoGetNum(t, b, at)
		}
		for _, at := range []int{4294967296, math.MaxInt - 4, math.MaxInt - 3, math.MaxInt - 2, math.MaxInt - 1, math.MaxInt} {
			wantNoGetNum(t, b, at)
		}
	}
	wantNoGetNum(t, nil, 0)
}

func TestGetNumOfOnePastTheLeast(t *testing.T) {
	wantNoGetNum(t, []byte{0, 0, 0, 0}, 0)
	wantNoGetNum(t, []byte{1, 0, 0, 0, 0, 1}, 1)
	wantGetNum(t, []byte{1, 0, 0, 0, 0, 1}, 0, -maxNum-1+0x01000000, 4)
	wantGetNum(t, []byte{1, 0, 0, 0, 0, 1}, 2, -maxNum, 6)
}

func TestListTable(t *testing.T) {
	for _, x := range []struct {
		l    []int
		want string
	}{
		{nil, "\x00"}, {[]int{}, "\x00"}, {[]int{0}, "\x01\x80\x00\x00\x00"},
		{[]int{1, -1}, "\x02\x80\x00\x00\x01\x7f\xff\xff\xff"},
		{[]int{-1, 1}, "\x02\x7f\xff\xff\xff\x80\x00\x00\x01"},
		{[]int{5, 5}, "\x02\x80\x00\x00\x05\x80\x00\x00\x05"},
		{[]int{math.MaxInt, math.MinInt}, "\x02\xff\xff\xff\xff\x00\x00\x00\x01"},
	} {
		wantBytes(t, "Packed", impl.Packed(x.l), []byte(x.want))
		for _, b := range behind() {
			wantBytes(t, "PutList", impl.PutList(b, x.l), []byte(string(b)+x.want))
		}
	}
}

func TestListsComeBack(t *testing.T) {
	for _, l := range lists() {
		want := wideList(l)
		packed := impl.Packed(l)
		wantBytes(t, "Packed", packed, want)
		if got, ok := impl.Unpacked(packed); !ok || !slices.Equal(got, bounded(l)) {
			t.Errorf("Unpacked of Packed of %v is %v and %v", l, got, ok)
		}
		for _, b := range behind() {
			got := impl.PutList(b, l)
			wantBytes(t, "PutList", got, append(slices.Clone(b), want...))
			wantGetList(t, got, len(b), bounded(l), len(got))
			wantGetList(t, append(got, 1, 2, 3), len(b), bounded(l), len(got))
		}
	}
}

func TestListsBehindOneAnother(t *testing.T) {
	var b []byte
	for _, l := range lists() {
		b = impl.PutList(b, l)
	}
	at := 0
	for _, l := range lists() {
		next := at + 1 + 4*len(l)
		wantGetList(t, b, at, bounded(l), next)
		at = next
	}
	if at != len(b) {
		t.Errorf("the lists end at %d of %d", at, len(b))
	}
}

func TestListOfTooMany(t *testing.T) {
	for _, count := range []int{256, 257, 511, 512, 513, 1000, 65536} {
		l := make([]int, count)
		wantBytes(t, "Packed", impl.Packed(l), nil)
		wantNoUnpacked(t, impl.Packed(l))
		for _, b := range behind() {
			wantBytes(t, "PutList", impl.PutList(b, l), b)
		}
	}
}

func TestGetListOfNoPlace(t *testing.T) {
	for _, b := range [][]byte{nil, {}, {0}, {0, 0}, impl.Packed([]int{1, 2, 3})} {
		for _, at := range []int{
			math.MinInt, math.MinInt + 1, -maxNum, -2, -1, len(b), len(b) + 1, len(b) + 4, 4294967296, math.MaxInt - 4, math.MaxInt - 1, math.MaxInt,
		} {
			wantNoGetList(t, b, at)
		}
	}
}

func TestGetListCutShort(t *testing.T) {
	for _, l := range [][]int{{1}, {1, 2}, {-5, 0, 5}, numsOf(255)} {
		b := impl.PutList([]byte{0, 3}, l)
		for size := 2; size < len(b); size++ {
			// The spare room behind has the rest; it is not to be read.
			wantNoGetList(t, b[:size], 2)
			wantNoGetList(t, slices.Clone(b[:size]), 2)
			wantNoUnpacked(t, b[2:size])
		}
	}
	for count := 1; count < 256; count++ {
		wantNoGetList(t, []byte{byte(count)}, 0)
		wantNoGetList(t, append([]byte{byte(count)}, bytes.Repeat([]byte{129}, 4*count-1)...), 0)
		wantNoGetList(t, []byte{byte(count), 128, 0, 0}, 0)
	}
}

func TestGetListOfOnePastTheLeast(t *testing.T) {
	for place := 0; place < 5; place++ {
		b := impl.Packed([]int{1, 2, 3, 4, 5})
		copy(b[1+4*place:], []byte{0, 0, 0, 0})
		wantNoGetList(t, b, 0)
		wantNoUnpacked(t, b)
	}
}

func TestUnpackedOfJustTheseBytes(t *testing.T) {
	wantNoUnpacked(t, nil)
	wantNoUnpacked(t, []byte{})
	for _, l := range lists() {
		b := impl.Packed(l)
		wantNoUnpacked(t, b[:len(b)-1])
		for _, more := range [][]byte{{0}, {1}, {255}, {128, 0, 0, 0}, {0, 0, 0, 0, 0}} {
			wantNoUnpacked(t, slices.Concat(b, more))
		}
		spare := append(slices.Clone(b), 0, 1, 2)[:len(b)]
		if got, ok := impl.Unpacked(spare); !ok || !slices.Equal(got, bounded(l)) {
			t.Errorf("Unpacked of %x with room behind is %v and %v", spare, got, ok)
		}
	}
	wantNoUnpacked(t, []byte{255})
	wantNoUnpacked(t, bytes.Repeat([]byte{255}, 1+4*256))
	if l, ok := impl.Unpacked(bytes.Repeat([]byte{255}, 1+4*255)); !ok || len(l) != 255 || l[254] != maxNum {
		t.Errorf("Unpacked of 255 is %v and %v", l, ok)
	}
}

// wantApart holds an answer against the memory of b, and of the spare room behind it.
func wantApart(t *testing.T, name string, put func(b []byte) []byte) {
	t.Helper()
	for _, begin := range behind() {
		room := append(slices.Clone(begin), bytes.Repeat([]byte{77}, 1200)...)
		before := slices.Clone(room)
		got := put(room[:len(begin)])
		want := slices.Clone(got)
		wantBytes(t, name+" leaves its argument, which", room, before)
		got = got[:cap(got)]
		for i := range got {
			got[i] ^= 255
		}
		wantBytes(t, name+" written over leaves its argument, which", room, before)
		got = put(room[:len(begin)])
		for i := range room {
			room[i] ^= 255
		}
		wantBytes(t, name+" with its argument written over", got, want)
	}
}

func TestPutSharesNoMemory(t *testing.T) {
	wantApart(t, "PutNum", func(b []byte) []byte { return impl.PutNum(b, 5) })
	for _, count := range []int{0, 1, 255, 256} {
		l := append(numsOf(count), 41, 42, 43)
		before := slices.Clone(l)
		wantApart(t, "PutList", func(b []byte) []byte { return impl.PutList(b, l[:count]) })
		impl.Packed(l[:count])
		if !slices.Equal(l, before) {
			t.Errorf("a list of %d is changed", count)
		}
	}
}

func TestGetSharesNoMemory(t *testing.T) {
	b := impl.Packed([]int{1, 2, 3})
	before := slices.Clone(b)
	first, _, _ := impl.GetList(b, 0)
	second, _ := impl.Unpacked(b)
	impl.GetNum(b, 1)
	wantBytes(t, "what was read", b, before)
	first[0], first[1], first[2] = 7, 8, 9
	if !slices.Equal(second, []int{1, 2, 3}) {
		t.Errorf("two answers share memory: %v", second)
	}
	wantGetList(t, b, 0, []int{1, 2, 3}, 13)
}
