package tests

import (
	"math"
	"math/big"
	"regexp"
	"strings"
	"testing"

	"loop.example/g00486/impl"
)

const maxNum = 2147483647

// edgeNums holds ordinary amounts and every edge of chapter 1, in ascending order.
func edgeNums() []int {
	return []int{
		math.MinInt, math.MinInt + 1, math.MinInt / 2, -4294967296,
		-maxNum - 2, -maxNum - 1, -maxNum, -maxNum + 1, -maxNum / 2,
		-1001, -100, -99, -8, -7, -3, -2, -1, 0, 1, 2, 3, 7, 8, 99, 100, 1001,
		maxNum / 2, maxNum/2 + 1, maxNum - 1, maxNum, maxNum + 1, maxNum + 2,
		4294967296, math.MaxInt / 2, math.MaxInt - 1, math.MaxInt,
	}
}

// bigBound works without a width, so that it cannot share a wrap-round with the program.
func bigBound(n *big.Int) *big.Int {
	if n.Cmp(big.NewInt(maxNum)) > 0 {
		return big.NewInt(maxNum)
	}
	if n.Cmp(big.NewInt(-maxNum)) < 0 {
		return big.NewInt(-maxNum)
	}
	return n
}

func bigOf(n int) *big.Int {
	return bigBound(big.NewInt(int64(n)))
}

func wantBig(t *testing.T, name string, got int, want *big.Int, args ...int) {
	t.Helper()
	if !want.IsInt64() || int64(got) != want.Int64() {
		t.Errorf("%s of %v is %d, want %s", name, args, got, want)
	}
}

func TestMaxNum(t *testing.T) {
	if impl.MaxNum != maxNum {
		t.Errorf("MaxNum is %d", impl.MaxNum)
	}
}

func TestBoundTable(t *testing.T) {
	for _, x := range [][2]int{
		{0, 0}, {1, 1}, {-1, -1}, {500, 500},
		{maxNum - 1, maxNum - 1}, {maxNum, maxNum}, {maxNum + 1, maxNum}, {math.MaxInt, maxNum},
		{-maxNum + 1, -maxNum + 1}, {-maxNum, -maxNum}, {-maxNum - 1, -maxNum}, {math.MinInt, -maxNum},
	} {
		if got := impl.Bound(x[0]); got != x[1] {
			t.Errorf("Bound of %d is %d, want %d", x[0], got, x[1])
		}
	}
}

func TestPlusAndLessTable(t *testing.T) {
	for _, x := range [][4]int{
		{0, 0, 0, 0}, {1, 2, 3, -1}, {-5, 3, -2, -8}, {40, -2, 38, 42},
		{maxNum, 1, maxNum, maxNum - 1}, {-maxNum, 1, -maxNum + 1, -maxNum},
		{maxNum, -1, maxNum - 1, maxNum}, {-maxNum, -1, -maxNum, -maxNum + 1},
		{maxNum, maxNum, maxNum, 0}, {-maxNum, -maxNum, -maxNum, 0}, {maxNum, -maxNum, 0, maxNum},
		{maxNum + 1, -1, maxNum - 1, maxNum}, {-maxNum - 1, 1, -maxNum + 1, -maxNum},
		{-1, maxNum + 1, maxNum - 1, -maxNum}, {1, -maxNum - 1, -maxNum + 1, maxNum},
		{math.MaxInt, math.MaxInt, maxNum, 0}, {math.MinInt, math.MinInt, -maxNum, 0},
		{math.MaxInt, math.MinInt, 0, maxNum}, {math.MinInt, math.MaxInt, 0, -maxNum},
		{math.MaxInt, -7, maxNum - 7, maxNum}, {math.MinInt, 7, -maxNum + 7, -maxNum},
		{0, math.MinInt, -maxNum, maxNum}, {-1, math.MinInt, -maxNum, maxNum - 1},
		{0, math.MaxInt, maxNum, -maxNum}, {5, math.MaxInt, maxNum, 5 - maxNum},
	} {
		if got := impl.Plus(x[0], x[1]); got != x[2] {
			t.Errorf("Plus of %d and %d is %d, want %d", x[0], x[1], got, x[2])
		}
		if got := impl.Less(x[0], x[1]); got != x[3] {
			t.Errorf("Less of %d and %d is %d, want %d", x[0], x[1], got, x[3])
		}
	}
}

func TestTwiceAndHalfTable(t *testing.T) {
	for _, x := range [][3]int{
		{0, 0, 0}, {1, 2, 0}, {-1, -2, 0}, {2, 4, 1}, {-2, -4, -1},
		{3, 6, 1}, {-3, -6, -1}, {7, 14, 3}, {-7, -14, -3}, {-8, -16, -4},
		{1073741823, 2147483646, 536870911}, {1073741824, maxNum, 536870912},
		{-1073741823, -2147483646, -536870911}, {-1073741824, -maxNum, -536870912},
		{maxNum, maxNum, 1073741823}, {-maxNum, -maxNum, -1073741823},
		{maxNum + 1, maxNum, 1073741823}, {-maxNum - 1, -maxNum, -1073741823},
		{math.MaxInt, maxNum, 1073741823}, {math.MinInt, -maxNum, -1073741823},
	} {
		if got := impl.Twice(x[0]); got != x[1] {
			t.Errorf("Twice of %d is %d, want %d", x[0], got, x[1])
		}
		if got := impl.Half(x[0]); got != x[2] {
			t.Errorf("Half of %d is %d, want %d", x[0], got, x[2])
		}
	}
}

func TestUptoTable(t *testing.T) {
	for _, x := range [][3]int{
		{5, 3, 3}, {2, 3, 2}, {3, 3, 3}, {0, 3, 0}, {3, 0, 0}, {0, 0, 0},
		{-1, 3, 0}, {3, -1, 0}, {-1, -1, 0}, {-5, -3, 0}, {-3, -5, 0}, {-1, 0, 0}, {0, -1, 0},
		{maxNum + 1, maxNum, maxNum}, {maxNum, maxNum + 1, maxNum},
		{math.MaxInt, math.MaxInt - 1, math.MaxInt - 1}, {math.MaxInt, math.MaxInt, math.MaxInt},
		{math.MinInt, math.MaxInt, 0}, {math.MaxInt, math.MinInt, 0}, {math.MinInt, math.MinInt, 0},
	} {
		if got := impl.Upto(x[0], x[1]); got != x[2] {
			t.Errorf("Upto of %d and %d is %d, want %d", x[0], x[1], got, x[2])
		}
	}
}

func TestOneEdgeAgainstWideNumbers(t *testing.T) {
	for _, n := range edgeNums() {
		b := bigOf(n)
		wantBig(t, "Bound", impl.Bound(n), b, n)
		wantBig(t, "Twice", impl.Twice(n), bigBound(new(big.Int).Add(b, b)), n)
		wantBig(t, "Half", impl.Half(n), new(big.Int).Quo(b, big.NewInt(2)), n)
	}
}

func TestTwoEdgesAgainstWideNumbers(t *testing.T) {
	for i, a := range edgeNums() {
		for j, b := range edgeNums() {
			x, y := bigOf(a), bigOf(b)
			wantBig(t, "Plus", impl.Plus(a, b), bigBound(new(big.Int).Add(x, y)), a, b)
			wantBig(t, "Less", impl.Less(a, b), bigBound(new(big.Int).Sub(x, y)), a, b)
			smaller := a
			if j < i {
				smaller = b
			}
			if smaller < 0 {
				smaller = 0
			}
			wantBig(t, "Upto", impl.Upto(a, b), big.NewInt(int64(smaller)), a, b)
		}
	}
}

func TestNumText(t *testing.T) {
	for _, x := range []struct {
		n    int
		want string
	}{
		{0, "0"}, {7, "7"}, {10, "10"}, {100, "100"}, {-1, "-1"}, {-10, "-10"}, {-907, "-907"},
		{maxNum, "2147483647"}, {-maxNum, "-2147483647"},
		{maxNum + 1, "2147483648"}, {-maxNum - 1, "-2147483648"},
		{math.MaxInt, "9223372036854775807"}, {math.MinInt, "-9223372036854775808"},
	} {
		if got := impl.NumText(x.n); got != x.want {
			t.Errorf("NumText of %d is %q, want %q", x.n, got, x.want)
		}
	}
}

func wantNum(t *testing.T, s string, want int) {
	t.Helper()
	if n, ok := impl.ParseNum(s); n != want || !ok {
		t.Errorf("ParseNum of %q is %d and %v, want %d and true", s, n, ok, want)
	}
}

func wantNoNum(t *testing.T, s string) {
	t.Helper()
	if n, ok := impl.ParseNum(s); n != 0 || ok {
		t.Errorf("ParseNum of %q is %d and %v, want 0 and false", s, n, ok)
	}
}

func TestParseNumReads(t *testing.T) {
	for s, want := range map[string]int{
		"0": 0, "1": 1, "9": 9, "10": 10, "100": 100, "907": 907, "-1": -1, "-9": -9, "-10": -10,
		"1234567890": 1234567890, "-1234567890": -1234567890,
		"2147483646": maxNum - 1, "2147483647": maxNum, "-2147483646": -maxNum + 1, "-2147483647": -maxNum,
	} {
		wantNum(t, s, want)
	}
}

func TestParseNumRefuses(t *testing.T) {
	for _, s := range []string{
		"", "-", "--", "-0", "00", "01", "007", "-00", "-01", "00000000001", "-02147483647", "02147483647",
		"2147483648", "-2147483648", "2147483650", "9999999999", "-9999999999", "12345678901", "-12345678901",
		"9223372036854775807", "9223372036854775808", "-9223372036854775808", "-9223372036854775809",
		"18446744073709551616", "18446744073709551617", "-18446744073709551617", "4294967296", "4294967297",
		" ", " 1", "1 ", "1 2", "- 1", " -1", "-1 ", "\t1", "1\n", "\n", "\r1", "1\x00", "\x001",
		"+", "+0", "+1", "1+", "-+1", "+-1", "--1", "1-", "1-2", "-1-", "0-", "-0-", "0-1",
		"x", "1x", "x1", "-x", "-1x", "1x2", "1.0", ".1", "1.", "1,000", "1_000", "0x10", "1e3", "0b1", "/", ":", "1/", "1:", "-/1",
		"\u0661", "1\u0662", "\uff11", "-\uff11", "\u00b2", "1\u00b9", "\u2212" + "1", "\ufeff1", "1\u00a0", "\u00bd", "\ufffd",
		"\xff", "\x80", "1\xff", "\xff1", "-\xff", "-\xff1", "1\xc3", "\xc0\xb1", "\xe2\x88", "1\xed\xa0\x80", "\xf0\x9f\x98",
		strings.Repeat("9", 100), strings.Repeat("1", 5000), "-" + strings.Repeat("9", 100),
		strings.Repeat("0", 100), strings.Repeat("-", 100), "1" + strings.Repeat("0", 64), "1" + strings.Repeat("0", 10) + "x",
	} {
		wantNoNum(t, s)
	}
}

// TestParseNumShortTexts goes through every text of up to 5 of the bytes that could matter.
func TestParseNumShortTexts(t *testing.T) {
	form := regexp.MustCompile(`^(0|-?[1-9][0-9]*)$`)
	texts := []string{""}
	for length := 0; length < 5; length++ {
		var longer []string
		for _, s := range texts {
			for _, c := range []byte("0179-+ x\xff") {
				longer = append(longer, s+string([]byte{c}))
			}
		}
		for _, s := range longer {
			if !form.MatchString(s) {
				wantNoNum(t, s)
				continue
			}
			want, _ := new(big.Int).SetString(s, 10)
			wantNum(t, s, int(want.Int64()))
		}
		texts = longer
	}
}

func TestParseNumEveryByte(t *testing.T) {
	for c := 0; c < 256; c++ {
		b := string([]byte{byte(c)})
		if c >= '0' && c <= '9' {
			wantNum(t, b, c-'0')
			wantNum(t, "4"+b, 40+c-'0')
			wantNum(t, "4"+b+"2", 402+10*(c-'0'))
			continue
		}
		wantNoNum(t, b)
		wantNoNum(t, "4"+b)
		wantNoNum(t, "4"+b+"2")
		wantNoNum(t, "-"+b+"2")
	}
}

func TestNumTextComesBack(t *testing.T) {
	back := func(n int) {
		s := impl.NumText(n)
		if n < -maxNum || n > maxNum {
			wantNoNum(t, s)
			return
		}
		wantNum(t, s, n)
	}
	for _, n := range edgeNums() {
		back(n)
	}
	for n := -20000; n <= 20000; n++ {
		back(n)
		back(maxNum + n)
		back(-maxNum + n)
	}
	for n := -maxNum; n <= maxNum; n += 99991 {
		back(n)
	}
}
