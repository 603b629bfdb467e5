package heap_test

import (
	"fmt"
	"math"
	"slices"
	"testing"

	"hopper/api"
	"hopper/heap"
	"hopper/txn"
)

const maxTip = 1 << 40

// list is transactions of tips; their nonces are their places.
func list(tips ...int) []api.Tx {
	var l []api.Tx
	for i, tip := range tips {
		l = append(l, api.Tx{Sender: 1, Nonce: i, Tip: tip, Cap: maxTip, Gas: 1})
	}
	return l
}

// alike is transactions of tips that may not be, as they have no gas: those of one tip are alike, none being better, and data alone tells them apart.
func alike(tips ...int) []api.Tx {
	var l []api.Tx
	for i, tip := range tips {
		l = append(l, api.Tx{Sender: 1, Nonce: 1, Tip: tip, Data: string(rune('a' + i))})
	}
	return l
}

func tips(l []api.Tx) []int {
	var out []int
	for _, t := range l {
		out = append(out, t.Tip)
	}
	return out
}

// names is the data of all, in a row.
func names(l []api.Tx) string {
	var out string
	for _, t := range l {
		out += t.Data
	}
	return out
}

// rows: of all tips below 3, up to 7 of them; of each row transactions that may be, and such as are alike.
func rows() [][]api.Tx {
	out := [][]api.Tx{nil, {}}
	row := make([]int, 7)
	for size := 1; size <= 7; size++ {
		count := 1
		for range size {
			count *= 3
		}
		for n := range count {
			for i := range size {
				row[i] = n % 3
				n /= 3
			}
			out = append(out, list(row[:size]...), alike(row[:size]...))
		}
	}
	return out
}

// pushed is P6.2's words for Push, one after the other.
func pushed(l []api.Tx, t api.Tx) []api.Tx {
	h := append(slices.Clone(l), t)
	at := len(h) - 1
	for at > 0 {
		above := (at - 1) / 2
		if !txn.Better(t, h[above]) {
			break
		}
		h[at], h[above] = h[above], t
		at = above
	}
	return h
}

// popped is P6.2's words for Pop, one after the other.
func popped(l []api.Tx) []api.Tx {
	h := slices.Clone(l[:len(l)-1])
	if len(h) == 0 {
		return nil
	}
	h[0] = l[len(l)-1]
	for at := 0; ; {
		first, second := 2*at+1, 2*at+2
		one := first < len(h) && txn.Better(h[first], h[at])
		other := second < len(h) && txn.Better(h[second], h[at])
		if !one && !other {
			return h
		}
		to := first
		if second < len(h) && txn.Better(h[second], h[first]) {
			to = second
		}
		h[at], h[to] = h[to], h[at]
		at = to
	}
}

// TestCheck is P6.1: none is better than the one above it, be they alike or not.
func TestCheck(t *testing.T) {
	for i, c := range []struct {
		l  []api.Tx
		is bool
	}{
		{nil, true},
		{[]api.Tx{}, true},
		{list(0), true},
		{list(2, 1), true},
		{list(1, 2), false},
		{list(3, 1, 2), true},
		{list(3, 1, 4), false},
		{list(3, 4, 1), false},
		{list(9, 5, 6, 4), true},
		{list(9, 5, 6, 7), false},
		{list(9, 5, 6, 4, 5), !txn.Better(list(9, 5, 6, 4, 5)[4], list(9, 5)[1])},
		{list(9, 5, 8, 1, 1, 7), true},
		{list(9, 8, 5, 1, 1, 7), false},
		{list(9, 8, 5, 1, 1, 4, 7), false},
		{list(9, 8, 5, 7, 7, 4, 4, 6, 6, 6, 6, 3, 3, 3, 3), true},
		{list(9, 8, 5, 7, 7, 4, 4, 6, 6, 6, 6, 3, 3, 3, 5), false},
		{alike(5, 5, 5, 5), true},
		{alike(5, 5, 5, 6), false},
		{alike(-1, math.MinInt, -1), true},
		{alike(math.MinInt, math.MaxInt), false},
	} {
		if is := heap.Check(c.l); is != c.is {
			t.Errorf("case %d: %v: %v", i, tips(c.l), is)
		}
	}
	for _, l := range rows() {
		want := true
		for i := range l {
			want = want && (i == 0 || !txn.Better(l[i], l[(i-1)/2]))
		}
		if is := heap.Check(l); is != want {
			t.Errorf("Check(%v): %v", l, is)
		}
	}
}

// TestPush is P6.2: known rows, heaps and others, and all small ones.
func TestPush(t *testing.T) {
	for i, c := range []struct {
		tips []int
		tip  int
		want []int
	}{
		{nil, 4, []int{4}},
		{[]int{4}, 3, []int{4, 3}},
		{[]int{4}, 5, []int{5, 4}},
		{[]int{5, 3, 4}, 6, []int{6, 5, 4, 3}},
		{[]int{9, 8, 7, 1, 2}, 10, []int{10, 8, 9, 1, 2, 7}},
		{[]int{9, 8, 7, 1, 2, 3}, 8, []int{9, 8, 8, 1, 2, 3, 7}},
		{[]int{9, 8, 7, 1, 2, 3}, 0, []int{9, 8, 7, 1, 2, 3, 0}},
		{[]int{9, 1, 7, 5}, 6, []int{9, 6, 7, 5, 1}},
		{[]int{1, 9, 7}, 8, []int{1, 9, 7, 8}},
	} {
		x := list(slices.Concat(c.tips, []int{c.tip})...)[len(c.tips)]
		if h := heap.Push(list(c.tips...), x); !slices.Equal(tips(h), c.want) {
			t.Errorf("case %d: %v; want %v", i, tips(h), c.want)
		}
	}
	// Who is no better than the one above it stays below it.
	if h := heap.Push(alike(5, 5), api.Tx{Sender: 1, Nonce: 1, Tip: 5, Data: "z"}); names(h) != "abz" {
		t.Errorf("of such as are alike: %s", names(h))
	}
	for _, l := range rows() {
		for _, x := range append(list(0, 1, 2, 3), alike(0, 1, 2, 3)...) {
			if h := heap.Push(l, x); !slices.Equal(h, pushed(l, x)) {
				t.Errorf("Push(%v, %v): %v", l, x, h)
			}
		}
	}
}

// TestPop is P6.2: known rows, heaps and others, none, and all small ones.
func TestPop(t *testing.T) {
	for i, c := range []struct {
		tips, want []int
	}{
		{[]int{4}, nil},
		{[]int{4, 3}, []int{3}},
		{[]int{3, 4}, []int{4}},
		{[]int{9, 5, 7}, []int{7, 5}},
		{[]int{9, 7, 5}, []int{7, 5}},
		{[]int{9, 7, 8, 1}, []int{8, 7, 1}},
		{[]int{9, 8, 7, 1, 2, 3}, []int{8, 3, 7, 1, 2}},
		{[]int{9, 8, 7, 1, 6, 3, 2}, []int{8, 6, 7, 1, 2, 3}},
		{[]int{9, 7, 8, 6, 5, 4, 3}, []int{8, 7, 4, 6, 5, 3}},
		{[]int{1, 2, 3, 9}, []int{9, 2, 3}},
		{[]int{1, 5, 2, 7, 6, 4, 3}, []int{5, 7, 2, 3, 6, 4}},
	} {
		l := list(c.tips...)
		h, x, ok := heap.Pop(l)
		if !slices.Equal(tips(h), c.want) || x != l[0] || !ok {
			t.Errorf("case %d: %v, %v, %v; want %v", i, tips(h), x, ok, c.want)
		}
	}
	for _, l := range [][]api.Tx{nil, {}} {
		if h, x, ok := heap.Pop(l); len(h) != 0 || x != (api.Tx{}) || ok {
			t.Errorf("of none: %v, %v, %v", h, x, ok)
		}
	}
	// Of two below that are alike the first one is swapped.
	if h, _, _ := heap.Pop(alike(9, 5, 5, 1)); names(h) != "bdc" {
		t.Errorf("of such as are alike: %s", names(h))
	}
	// Who is no better than the one above it is not swapped.
	if h, _, _ := heap.Pop(alike(9, 5, 5, 5)); names(h) != "dbc" {
		t.Errorf("of such as are alike: %s", names(h))
	}
	for _, l := range rows() {
		if len(l) == 0 {
			continue
		}
		if h, x, ok := heap.Pop(l); !slices.Equal(h, popped(l)) || x != l[0] || !ok {
			t.Errorf("Pop(%v): %v, %v, %v", l, h, x, ok)
		}
	}
}

// TestMake is P6.3: each is pushed, in order, to none.
func TestMake(t *testing.T) {
	for i, c := range []struct {
		tips, want []int
	}{
		{nil, nil},
		{[]int{4}, []int{4}},
		{[]int{1, 5, 3}, []int{5, 1, 3}},
		{[]int{1, 5, 3, 9}, []int{9, 5, 3, 1}},
		{[]int{1, 2, 3, 4, 5, 6, 7}, []int{7, 4, 6, 1, 3, 2, 5}},
		{[]int{7, 6, 5, 4, 3, 2, 1}, []int{7, 6, 5, 4, 3, 2, 1}},
	} {
		if h := heap.Make(list(c.tips...)); !slices.Equal(tips(h), c.want) {
			t.Errorf("case %d: %v; want %v", i, tips(h), c.want)
		}
	}
	for _, l := range rows() {
		var want []api.Tx
		for _, x := range l {
			want = pushed(want, x)
		}
		if h := heap.Make(l); !slices.Equal(h, want) {
			t.Errorf("Make(%v): %v; want %v", l, h, want)
		}
	}
}

// TestOrder is P6.3: what is popped of what was made, till none is left.
func TestOrder(t *testing.T) {
	if got := tips(heap.Order(list(1, 5, 3))); !slices.Equal(got, []int{5, 3, 1}) {
		t.Errorf("of 1, 5, 3: %v", got)
	}
	if got := names(heap.Order(alike(5, 5, 5, 5))); got != "adcb" {
		t.Errorf("of such as are alike: %s", got)
	}
	for _, l := range rows() {
		var h, want []api.Tx
		for _, x := range l {
			h = pushed(h, x)
		}
		for len(h) > 0 {
			want = append(want, h[0])
			h = popped(h)
		}
		if got := heap.Order(l); !slices.Equal(got, want) {
			t.Errorf("Order(%v): %v; want %v", l, got, want)
		}
	}
}

// TestWorst is P6.4: the first one that is better than none, in whatever list.
func TestWorst(t *testing.T) {
	for i, c := range []struct {
		l    []api.Tx
		want int
	}{
		{list(3), 0},
		{list(3, 1, 2), 1},
		{list(1, 2, 3), 0},
		{list(3, 2, 1), 2},
		{list(0, maxTip), 0},
		{list(maxTip, 0), 1},
		{alike(5, 2, 2), 1},
		{alike(2, 5, 2), 0},
		{alike(5, 5, 5), 0},
		{alike(5, 5, 4), 2},
		{alike(0, -1, math.MinInt, math.MinInt, 7), 2},
		// No ID stands ahead of any other one, so of one tip who may be is worse.
		{[]api.Tx{{Tip: 5}, {Tip: 5, Cap: 5, Gas: 1}, {Tip: 5}}, 1},
		{[]api.Tx{{Sender: 1}, {Sender: 3}, {Sender: 2}}, 1},
		{[]api.Tx{{Nonce: 1}, {Nonce: 2}, {Nonce: 3}}, 2},
	} {
		if at, ok := heap.Worst(c.l); at != c.want || !ok {
			t.Errorf("case %d: %d, %v; want %d", i, at, ok, c.want)
		}
	}
	for _, l := range [][]api.Tx{nil, {}} {
		if at, ok := heap.Worst(l); at != 0 || ok {
			t.Errorf("of none: %d, %v", at, ok)
		}
	}
	for _, l := range rows() {
		want := slices.IndexFunc(l, func(x api.Tx) bool {
			return !slices.ContainsFunc(l, func(y api.Tx) bool { return txn.Better(x, y) })
		})
		if at, ok := heap.Worst(l); len(l) > 0 && (at != want || !ok) {
			t.Errorf("Worst(%v): %d, %v; want %d", l, at, ok, want)
		}
	}
}

// TestStaysAHeap is P6.5: what is pushed to a heap, and popped of it, is one, and its first one is the best one.
func TestStaysAHeap(t *testing.T) {
	for _, l := range rows() {
		var h []api.Tx
		for i, x := range l {
			h = heap.Push(h, x)
			if !heap.Check(h) || len(h) != i+1 {
				t.Errorf("%v, with %v: %v", l[:i], x, h)
			}
		}
		for len(h) > 0 {
			rest, first, _ := heap.Pop(h)
			if !heap.Check(rest) || len(rest) != len(h)-1 {
				t.Errorf("%v, popped: %v", h, rest)
			}
			if slices.ContainsFunc(h, func(x api.Tx) bool { return txn.Better(x, first) }) {
				t.Errorf("%v: the first one is not the best one", h)
			}
			h = rest
		}
	}
}

// TestOrderHasAll is P6.5: an order has all, each as often, the better ones first; of many, too.
func TestOrderHasAll(t *testing.T) {
	var many []api.Tx
	for i := range 1000 {
		many = append(many, api.Tx{Sender: i % 256, Nonce: i, Tip: i * i % 37, Cap: maxTip, Gas: 1})
	}
	for _, l := range append(rows(), many) {
		count := map[api.Tx]int{}
		for _, x := range l {
			count[x]++
		}
		o := heap.Order(l)
		for i, x := range o {
			count[x]--
			if i > 0 && txn.Better(x, o[i-1]) {
				t.Errorf("Order(%v): %v goes behind %v", l, x, o[i-1])
			}
		}
		for x, n := range count {
			if n != 0 {
				t.Errorf("Order(%v): %v is there %d times too few", l, x, n)
			}
		}
	}
}

// TestKeepsWhatIsHandedIn is R5 and R6: arguments stay as they are, and so does what lies behind them; what is answered is new memory; the same again is told again.
func TestKeepsWhatIsHandedIn(t *testing.T) {
	all := list(1, 5, 3, 9, 2, 8, 50)
	kept := slices.Clone(all)
	for end := range all {
		l := all[:end]
		first := answers(l)
		if again := answers(l); again != first {
			t.Errorf("%s; again: %s", first, again)
		}
		if !slices.Equal(all, kept) {
			t.Fatalf("changed: %v", all)
		}
	}
}

// answers is what all calls tell of l; their lists are written over behind that.
func answers(l []api.Tx) string {
	rest, first, ok := heap.Pop(l)
	grown, made, order := heap.Push(l, list(7)[0]), heap.Make(l), heap.Order(l)
	at, is := heap.Worst(l)
	out := fmt.Sprint(rest, first, ok, grown, made, order, at, is, heap.Check(l))
	for _, told := range [][]api.Tx{rest, grown, made, order} {
		for i := range told[:cap(told)] {
			told[:cap(told)][i] = api.Tx{Nonce: -77}
		}
	}
	return out
}
