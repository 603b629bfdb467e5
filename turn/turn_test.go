package turn_test

import (
	"fmt"
	"math"
	"slices"
	"testing"

	"hopper/turn"
)

// edges: numbers at which bounds lie, or sums of 64 bits or of 32 turn round, and plain ones.
var edges = []int{
	math.MinInt, math.MinInt + 1, -1<<32 - 1, -1 << 32, -1 << 31, -1001, -1000, -7, -6, -5, -2, -1, 0, 1, 2, 3, 4, 5, 6, 7, 8, 11, 12, 13,
	998, 999, 1000, 1001, 1<<31 - 1, 1 << 31, 1 << 32, 1<<32 + 1, math.MaxInt - 1, math.MaxInt,
}

// rows: all of up to 7 items.
func rows() [][]bool {
	all := [][]bool{nil, {}}
	for size := 1; size <= 7; size++ {
		for n := range 1 << size {
			l := make([]bool, size)
			for i := range l {
				l[i] = n>>i&1 == 1
			}
			all = append(all, l)
		}
	}
	return all
}

// row is a row written as a text: y for who may, n for who may not.
func row(text string) []bool {
	var l []bool
	for _, c := range text {
		l = append(l, c == 'y')
	}
	return l
}

// able is those who may, in order.
func able(l []bool) []int {
	var out []int
	for i, may := range l {
		if may {
			out = append(out, i)
		}
	}
	return out
}

// picked is P10.1's words of Pick.
func picked(l []bool, n int) int {
	all := able(l)
	if len(all) == 0 || n < 0 {
		return -1
	}
	return all[n%len(all)]
}

// next is P10.2's words.
func next(l []bool, last int) int {
	var order []int
	if last < 0 || last >= len(l) {
		last = -1
	}
	for i := last + 1; i < len(l); i++ {
		order = append(order, i)
	}
	for i := 0; i <= last; i++ {
		order = append(order, i)
	}
	for _, i := range order {
		if l[i] {
			return i
		}
	}
	return -1
}

// rounds is P10.3's words.
func rounds(l []bool, last int, n int) []int {
	var out []int
	for len(out) < n && len(out) < 1000 {
		last = next(l, last)
		if last == -1 {
			break
		}
		out = append(out, last)
	}
	return out
}

// TestCount is P10.1: of all rows, and of none.
func TestCount(t *testing.T) {
	for _, l := range rows() {
		if n := turn.Count(l); n != len(able(l)) {
			t.Errorf("%v: Count: %d", l, n)
		}
	}
	for text, want := range map[string]int{"": 0, "n": 0, "y": 1, "nnn": 0, "yyy": 3, "ynnyn": 2, "nynyy": 3} {
		if n := turn.Count(row(text)); n != want {
			t.Errorf("%s: Count: %d; want %d", text, n, want)
		}
	}
}

// TestPickExamples is P10.1: the chapter's example, the edges, and wrong inputs.
func TestPickExamples(t *testing.T) {
	for _, c := range []struct {
		l       string
		n, want int
	}{
		{"nyny", 3, 3},
		{"nyny", 0, 1},
		{"nyny", 1, 3},
		{"nyny", 2, 1},
		{"nyny", math.MaxInt, 3},
		{"nyny", math.MaxInt - 1, 1},
		{"nyny", -1, -1},
		{"nyny", math.MinInt, -1},
		{"yyy", 4, 1},
		{"nny", 0, 2},
		{"nny", 100, 2},
		{"ynn", 100, 0},
		{"n", 0, -1},
		{"nnn", 5, -1},
		{"nnn", -1, -1},
		{"", 0, -1},
		{"", math.MaxInt, -1},
		{"", -1, -1},
	} {
		if i := turn.Pick(row(c.l), c.n); i != c.want {
			t.Errorf("%s: Pick(%d): %d; want %d", c.l, c.n, i, c.want)
		}
	}
}

// TestPickIsItsWords is P10.1, of all rows and numbers.
func TestPickIsItsWords(t *testing.T) {
	for _, l := range rows() {
		for _, n := range edges {
			if i, want := turn.Pick(l, n), picked(l, n); i != want {
				t.Errorf("%v: Pick(%d): %d; want %d", l, n, i, want)
			}
		}
	}
}

// TestNextExamples is P10.2: behind last, round the end, last itself again, and last that is none.
func TestNextExamples(t *testing.T) {
	for _, c := range []struct {
		l          string
		last, want int
	}{
		{"nyny", 0, 1},
		{"nyny", 1, 3},
		{"nyny", 2, 3},
		{"nyny", 3, 1},
		{"nyny", 4, 1},
		{"nyny", -1, 1},
		{"yyyy", -1, 0},
		{"yyyy", 0, 1},
		{"yyyy", 3, 0},
		{"yyyy", 4, 0},
		{"yyyy", 5, 0},
		{"yyyy", -2, 0},
		{"yyyy", -3, 0},
		{"yyyy", math.MinInt, 0},
		{"yyyy", math.MaxInt, 0},
		{"nnyn", 2, 2},
		{"nnyn", 3, 2},
		{"nnny", 3, 3},
		{"y", 0, 0},
		{"nnnn", 0, -1},
		{"nnnn", -1, -1},
		{"nnnn", 3, -1},
		{"n", 0, -1},
		{"", 0, -1},
		{"", -1, -1},
		{"", math.MaxInt, -1},
	} {
		if i := turn.Next(row(c.l), c.last); i != c.want {
			t.Errorf("%s: Next(%d): %d; want %d", c.l, c.last, i, c.want)
		}
	}
}

// TestNextIsItsWords is P10.2, of all rows and numbers.
func TestNextIsItsWords(t *testing.T) {
	for _, l := range rows() {
		for _, last := range edges {
			if i, want := turn.Next(l, last), next(l, last); i != want {
				t.Errorf("%v: Next(%d): %d; want %d", l, last, i, want)
			}
		}
	}
}

// TestRoundsExamples is P10.3: none, less than a round, more than one, one alone, and nobody.
func TestRoundsExamples(t *testing.T) {
	for _, c := range []struct {
		l       string
		last, n int
		want    []int
	}{
		{"nyny", -1, 5, []int{1, 3, 1, 3, 1}},
		{"nyny", 1, 1, []int{3}},
		{"nyny", 1, 2, []int{3, 1}},
		{"nyny", 1, 3, []int{3, 1, 3}},
		{"nyny", 4, 2, []int{1, 3}},
		{"nyny", 2, 0, nil},
		{"nyny", 2, -1, nil},
		{"nyny", 2, math.MinInt, nil},
		{"yyy", 1, 7, []int{2, 0, 1, 2, 0, 1, 2}},
		{"nyn", 1, 3, []int{1, 1, 1}},
		{"nyn", math.MaxInt, 2, []int{1, 1}},
		{"nnn", 0, 5, nil},
		{"", -1, 5, nil},
		{"", -1, math.MaxInt, nil},
	} {
		if l := turn.Rounds(row(c.l), c.last, c.n); !slices.Equal(l, c.want) {
			t.Errorf("%s: Rounds(%d, %d): %v; want %v", c.l, c.last, c.n, l, c.want)
		}
	}
}

// TestRoundsAreTheirWords is P10.3, of all rows and numbers.
func TestRoundsAreTheirWords(t *testing.T) {
	for _, l := range rows() {
		for _, last := range edges {
			for n := -2; n <= 16; n++ {
				if got, want := turn.Rounds(l, last, n), rounds(l, last, n); !slices.Equal(got, want) {
					t.Errorf("%v: Rounds(%d, %d): %v; want %v", l, last, n, got, want)
				}
			}
		}
	}
	for _, text := range []string{"", "n", "y", "nyny", "yynyyny"} {
		for _, n := range edges {
			if got, want := turn.Rounds(row(text), 2, n), rounds(row(text), 2, n); !slices.Equal(got, want) {
				t.Errorf("%s: Rounds(2, %d): %v; want %v", text, n, got, want)
			}
		}
	}
}

// TestRoundsAtMost is P10.3: 1000 at most, of a row of few who may, and of one of more who may than that.
func TestRoundsAtMost(t *testing.T) {
	all := slices.Repeat([]bool{true}, 1500)
	for n, want := range map[int]int{999: 999, 1000: 1000, 1001: 1000, 1500: 1000, math.MaxInt: 1000} {
		if l := turn.Rounds(row("nyny"), -1, n); len(l) != want || l[0] != 1 || l[998] != 1 || l[997] != 3 {
			t.Errorf("nyny: Rounds of %d: %d", n, len(l))
		}
		l := turn.Rounds(all, 700, n)
		if len(l) != want || l[0] != 701 || l[798] != 1499 || l[799] != 0 || l[998] != 199 {
			t.Errorf("all of 1500: Rounds of %d: %d", n, len(l))
		}
	}
}

// TestToldMayGoOn is P10.4: who is told may go on, and where somebody may, somebody is told.
func TestToldMayGoOn(t *testing.T) {
	for _, l := range rows() {
		some := turn.Count(l) > 0
		for _, n := range edges {
			told := append(turn.Rounds(l, n, 9), turn.Next(l, n))
			if n >= 0 {
				told = append(told, turn.Pick(l, n))
			}
			for _, i := range told {
				if some && (i < 0 || i >= len(l) || !l[i]) || !some && i != -1 {
					t.Errorf("%v, %d: %d is told", l, n, i)
				}
			}
		}
	}
}

// TestEverybodyHasTurns is P10.4: in each round, wherever it begins, everybody who may has one turn; and Pick goes through all as well.
func TestEverybodyHasTurns(t *testing.T) {
	for _, l := range rows() {
		count := turn.Count(l)
		for _, last := range edges {
			told := turn.Rounds(l, last, 3*count)
			if len(told) != 3*count {
				t.Errorf("%v: Rounds(%d, %d): %v", l, last, 3*count, told)
				continue
			}
			for from := 0; from+count <= len(told); from++ {
				once := slices.Sorted(slices.Values(told[from : from+count]))
				if !slices.Equal(once, able(l)) {
					t.Errorf("%v: Rounds(%d, %d): %v", l, last, 3*count, told)
				}
			}
		}
		var all []int
		for n := range count {
			all = append(all, turn.Pick(l, n))
		}
		if !slices.Equal(all, able(l)) {
			t.Errorf("%v: picked: %v", l, all)
		}
	}
}

// TestLongRow is R1: of a long row, of which one may, all calls end.
func TestLongRow(t *testing.T) {
	const size, at = 5000000, 4321000
	l := make([]bool, size)
	if turn.Count(l) != 0 || turn.Pick(l, 5) != -1 || turn.Next(l, 5) != -1 || turn.Rounds(l, 5, 2000) != nil {
		t.Error("nobody may, but somebody is told")
	}
	l[at] = true
	told := turn.Rounds(l, at, 2000)
	if turn.Count(l) != 1 || turn.Pick(l, 5) != at || turn.Next(l, at) != at || !slices.Equal(told, slices.Repeat([]int{at}, 1000)) {
		t.Errorf("%d, %d, %d, %d are told", turn.Count(l), turn.Pick(l, 5), turn.Next(l, at), len(told))
	}
}

// TestKeepsWhatIsHandedIn is R5 and R6: a row stays as it is; what is answered is new memory; the same again is told again.
func TestKeepsWhatIsHandedIn(t *testing.T) {
	for _, l := range rows() {
		kept := slices.Clone(l)
		for _, n := range edges {
			told := answers(l, n)
			if again := answers(l, n); again != told {
				t.Errorf("%v, %d: %s; again: %s", l, n, told, again)
			}
			if !slices.Equal(l, kept) {
				t.Fatalf("%v: changed: %v", kept, l)
			}
		}
	}
}

// answers is what all calls tell of l; the list is written over behind that.
func answers(l []bool, n int) string {
	told := turn.Rounds(l, n, 9)
	out := fmt.Sprint(turn.Count(l), turn.Pick(l, n), turn.Next(l, n), told)
	told = told[:cap(told)]
	for i := range told {
		told[i] = -99
	}
	return out
}
