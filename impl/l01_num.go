package impl

import (
	"strconv"
	"strings"
)

const MaxNum = 2147483647

func Bound(n int) int {
	return max(-MaxNum, min(n, MaxNum))
}

// sum bounds each part ahead of adding, since the least or the greatest int
// would wrap round in a plain sum.
func sum(parts ...int) int {
	total := 0
	for _, part := range parts {
		total += Bound(part)
	}
	return Bound(total)
}

func Plus(a int, b int) int {
	return sum(a, b)
}

// Less bounds b ahead of turning its sign, since the least int has no
// opposite.
func Less(a int, b int) int {
	return sum(a, -Bound(b))
}

func Twice(n int) int {
	return sum(n, n)
}

func Half(n int) int {
	return Bound(n) / 2
}

func Upto(n int, most int) int {
	return max(0, min(n, most))
}

func NumText(n int) string {
	return strconv.Itoa(n)
}

func ParseNum(s string) (int, bool) {
	digits, below := strings.CutPrefix(s, "-")
	n, ok := readDigits(digits)
	if !below {
		return n, ok
	}
	// Without a sign of its own 0 has one text alone.
	return -n, ok && n != 0
}

// readDigits gives up at the first value past MaxNum, so that no text is long
// enough to wrap round.
func readDigits(s string) (int, bool) {
	if s == "" || len(s) > 1 && s[0] == '0' {
		return 0, false
	}
	n := 0
	for _, r := range s {
		if r < '0' || r > '9' {
			return 0, false
		}
		n = n*10 + int(r-'0')
		if n > MaxNum {
			return 0, false
		}
	}
	return n, true
}
