package sat_test

import (
	"math"
	"math/big"
	"slices"
	"testing"

	"hopper/sat"
)

const maxTip = 1 << 40

// edges: numbers at which sums and products of 64 bits turn round, or nearly so, and plain ones.
var edges = []int{
	math.MinInt, math.MinInt + 1, -1 << 32, -2, -1, 0, 1, 2, 3, 10, 31, 1 << 31, 1<<32 - 1, 1 << 32, 1<<32 + 1,
	3037000499, 3037000500, maxTip, 1 << 62, math.MaxInt/3 + 1, math.MaxInt / 2, math.MaxInt/2 + 1, math.MaxInt - 1, math.MaxInt,
}

// bounded: what a sum or a product is to be told as.
func bounded(whole *big.Int, a, b, most int) (int, bool) {
	if a < 0 || b < 0 || whole.Cmp(big.NewInt(int64(most))) > 0 {
		return 0, false
	}
	return int(whole.Int64()), true
}

// TestAddAndMulOfEdges is P1.1, held against whole numbers however great.
func TestAddAndMulOfEdges(t *testing.T) {
	for _, a := range edges {
		for _, b := range edges {
			x, y := big.NewInt(int64(a)), big.NewInt(int64(b))
			sum, product := new(big.Int).Add(x, y), new(big.Int).Mul(x, y)
			for _, most := range edges {
				want, fits := bounded(sum, a, b, most)
				if n, ok := sat.Add(a, b, most); n != want || ok != fits {
					t.Errorf("Add(%d, %d, %d): %d, %v; want %d, %v", a, b, most, n, ok, want, fits)
				}
				want, fits = bounded(product, a, b, most)
				if n, ok := sat.Mul(a, b, most); n != want || ok != fits {
					t.Errorf("Mul(%d, %d, %d): %d, %v; want %d, %v", a, b, most, n, ok, want, fits)
				}
			}
		}
	}
}

// TestAddAndMulOfSmall is P1.1, of all small numbers.
func TestAddAndMulOfSmall(t *testing.T) {
	for a := -3; a <= 12; a++ {
		for b := -3; b <= 12; b++ {
			for most := -3; most <= 150; most++ {
				may := a >= 0 && b >= 0
				checkTold(t, "Add", a, b, most, a+b, may && a+b <= most, sat.Add)
				checkTold(t, "Mul", a, b, most, a*b, may && a*b <= most, sat.Mul)
			}
		}
	}
}

func checkTold(t *testing.T, name string, a, b, most, whole int, fits bool, f func(int, int, int) (int, bool)) {
	t.Helper()
	want := 0
	if fits {
		want = whole
	}
	if n, ok := f(a, b, most); n != want || ok != fits {
		t.Errorf("%s(%d, %d, %d): %d, %v; want %d, %v", name, a, b, most, n, ok, want, fits)
	}
}

// TestRaiseExamples is P1.2: the document's examples, the edges, and wrong inputs.
func TestRaiseExamples(t *testing.T) {
	for _, c := range []struct {
		tip, percent, want int
		ok                 bool
	}{
		{100, 10, 110, true},
		{101, 10, 112, true},
		{0, 0, 1, true},
		{0, 10, 1, true},
		{0, 100, 1, true},
		{1, 0, 2, true},
		{1, 100, 2, true},
		{100, 1, 101, true},
		{199, 1, 201, true},
		{200, 1, 202, true},
		{201, 1, 204, true},
		{1000, 0, 1001, true},
		{maxTip - 1, 0, maxTip, true},
		{maxTip - 1, 1, 0, false},
		{maxTip, 0, 0, false},
		{maxTip, 100, 0, false},
		{maxTip / 2, 100, maxTip, true},
		{maxTip/2 + 1, 100, 0, false},
		{maxTip + 1, 0, 0, false},
		{-1, 0, 0, false},
		{100, -1, 0, false},
		{100, 101, 0, false},
		{0, 101, 0, false},
		{math.MinInt, 10, 0, false},
		{math.MaxInt, 10, 0, false},
		{10, math.MinInt, 0, false},
		{10, math.MaxInt, 0, false},
		{math.MaxInt, math.MaxInt, 0, false},
	} {
		if n, ok := sat.Raise(c.tip, c.percent); n != c.want || ok != c.ok {
			t.Errorf("Raise(%d, %d): %d, %v; want %d, %v", c.tip, c.percent, n, ok, c.want, c.ok)
		}
	}
}

// reaches tells whether n may be what tip is raised to.
func reaches(n, tip, percent int) bool {
	return n > tip && 100*n >= (100+percent)*tip
}

// someTips: small ones, and ones around where a raised tip passes the greatest one.
func someTips() []int {
	var tips []int
	for tip := range 350 {
		tips = append(tips, tip)
	}
	for _, middle := range []int{maxTip / 3, maxTip / 2, maxTip * 100 / 173, maxTip * 100 / 101, maxTip} {
		for tip := max(0, middle-4); tip <= min(maxTip, middle+4); tip++ {
			tips = append(tips, tip)
		}
	}
	return tips
}

// TestRaiseIsLeast is P1.2: no number below the one that is told would do, and none is told only where none may be.
func TestRaiseIsLeast(t *testing.T) {
	for _, tip := range someTips() {
		for percent := 0; percent <= 100; percent++ {
			n, ok := sat.Raise(tip, percent)
			switch {
			case ok && (!reaches(n, tip, percent) || reaches(n-1, tip, percent) || n > maxTip):
				t.Errorf("Raise(%d, %d): %d", tip, percent, n)
			case !ok && (n != 0 || reaches(maxTip, tip, percent)):
				t.Errorf("Raise(%d, %d): %d, false", tip, percent, n)
			}
		}
	}
}

// TestSlots is P1.3: every size that may be, and wrong ones.
func TestSlots(t *testing.T) {
	for size := 0; size <= 400; size++ {
		want := 1
		for 32*want < size {
			want++
		}
		if n := sat.Slots(size); n != want {
			t.Errorf("Slots(%d): %d; want %d", size, n, want)
		}
	}
	for _, size := range []int{math.MinInt, -32, -1, 401, 1 << 32, math.MaxInt - 31, math.MaxInt} {
		if n := sat.Slots(size); n != 0 {
			t.Errorf("Slots(%d): %d; want 0", size, n)
		}
	}
}

// repeated: n times the same pair.
func repeated(n int, pair [2]int) [][2]int {
	return slices.Repeat([][2]int{pair}, n)
}

// TestTotals is P1.4: ordinary pairs, as many and as great as may be, and wrong ones.
func TestTotals(t *testing.T) {
	for i, c := range []struct {
		pairs [][2]int
		want  [2]int
		ok    bool
	}{
		{nil, [2]int{}, true},
		{[][2]int{}, [2]int{}, true},
		{[][2]int{{7, 9}}, [2]int{7, 9}, true},
		{[][2]int{{1, 2}, {3, 4}, {5, 0}}, [2]int{9, 6}, true},
		{[][2]int{{0, 1}, {0, 2}}, [2]int{0, 3}, true},
		{[][2]int{{maxTip, 0}, {0, maxTip}}, [2]int{maxTip, maxTip}, true},
		{repeated(1000, [2]int{maxTip, maxTip - 1}), [2]int{1000 * maxTip, 1000 * (maxTip - 1)}, true},
		{append(repeated(999, [2]int{maxTip, maxTip}), [2]int{1, maxTip - 1}), [2]int{999*maxTip + 1, 1000*maxTip - 1}, true},
		{repeated(1000, [2]int{}), [2]int{}, true},
		{repeated(1001, [2]int{}), [2]int{}, false},
		{repeated(1001, [2]int{1, 1}), [2]int{}, false},
		{[][2]int{{-1, 0}}, [2]int{}, false},
		{[][2]int{{0, -1}}, [2]int{}, false},
		{[][2]int{{maxTip + 1, 0}}, [2]int{}, false},
		{[][2]int{{0, maxTip + 1}}, [2]int{}, false},
		{[][2]int{{5, 5}, {5, -1}}, [2]int{}, false},
		{[][2]int{{-1, 5}, {5, 5}}, [2]int{}, false},
		{[][2]int{{5, 5}, {math.MinInt, math.MaxInt}, {5, 5}}, [2]int{}, false},
	} {
		if got, ok := sat.Totals(c.pairs); got != c.want || ok != c.ok {
			t.Errorf("case %d: %v, %v; want %v, %v", i, got, ok, c.want, c.ok)
		}
	}
}

// TestTotalsKeepsPairs is R5 and R6: what is handed in is not changed, and the same again is told again.
func TestTotalsKeepsPairs(t *testing.T) {
	pairs := [][2]int{{1, 2}, {maxTip, 3}, {0, 0}}
	kept := slices.Clone(pairs)
	for range 2 {
		if got, ok := sat.Totals(pairs); got != [2]int{maxTip + 1, 5} || !ok {
			t.Errorf("Totals: %v, %v", got, ok)
		}
	}
	if !slices.Equal(pairs, kept) {
		t.Errorf("pairs changed: %v", pairs)
	}
}

// TestSumsHangOnNoOrder is P1.5: a sum is that of its parts, in whatever order.
func TestSumsHangOnNoOrder(t *testing.T) {
	var pairs [][2]int
	for i := range 1000 {
		pairs = append(pairs, [2]int{maxTip - i*i, i * 1000003})
	}
	whole, ok := sat.Totals(pairs)
	if !ok {
		t.Fatal("no sum")
	}
	for _, cut := range []int{0, 1, 333, 999, 1000} {
		left, okLeft := sat.Totals(pairs[:cut])
		right, okRight := sat.Totals(pairs[cut:])
		if !okLeft || !okRight || left[0]+right[0] != whole[0] || left[1]+right[1] != whole[1] {
			t.Errorf("cut at %d: %v and %v; want %v", cut, left, right, whole)
		}
		turned := slices.Concat(pairs[cut:], pairs[:cut])
		slices.Reverse(turned)
		if got, ok := sat.Totals(turned); got != whole || !ok {
			t.Errorf("turned at %d: %v, %v; want %v", cut, got, ok, whole)
		}
	}
	for _, a := range edges {
		for _, b := range edges {
			checkTurned(t, a, b)
		}
	}
}

// checkTurned holds a sum and a product against those of the same two, the other way round.
func checkTurned(t *testing.T, a, b int) {
	t.Helper()
	for _, most := range edges {
		n, ok := sat.Add(a, b, most)
		if m, is := sat.Add(b, a, most); n != m || ok != is {
			t.Errorf("Add of %d and %d up to %d: %d, %v; turned %d, %v", a, b, most, n, ok, m, is)
		}
		n, ok = sat.Mul(a, b, most)
		if m, is := sat.Mul(b, a, most); n != m || ok != is {
			t.Errorf("Mul of %d and %d up to %d: %d, %v; turned %d, %v", a, b, most, n, ok, m, is)
		}
	}
}

// TestRaiseGrows is P1.5: what is raised is above, and no less than what less is raised to, be it less of a tip or of percents.
func TestRaiseGrows(t *testing.T) {
	for _, tip := range someTips() {
		for percent := 0; percent <= 100; percent++ {
			n, ok := sat.Raise(tip, percent)
			if !ok {
				continue
			}
			if n <= tip {
				t.Errorf("Raise(%d, %d): %d is not above", tip, percent, n)
			}
			if m, is := sat.Raise(tip-1, percent); tip > 0 && (!is || m > n) {
				t.Errorf("Raise(%d, %d): %d, but of one less %d, %v", tip, percent, n, m, is)
			}
			if m, is := sat.Raise(tip, percent-1); percent > 0 && (!is || m > n) {
				t.Errorf("Raise(%d, %d): %d, but by one percent less %d, %v", tip, percent, n, m, is)
			}
		}
	}
}
