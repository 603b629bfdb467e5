package lock_test

import (
	"fmt"
	"math"
	"slices"
	"testing"

	"hopper/api"
	"hopper/lock"
)

// edges: numbers at which bounds lie, or sums of 64 bits or of 32 turn round, and plain ones.
var edges = []int{
	math.MinInt, math.MinInt + 1, -1<<32 - 1, -1 << 32, -1 << 31, -1000, -9, -8, -5, -4, -3, -2, -1, 0, 1, 2, 3, 4, 5, 7, 8, 9, 10,
	1000, 1<<31 - 1, 1 << 31, 1 << 32, 1<<32 + 1, math.MaxInt - 1, math.MaxInt,
}

// tables: of up to 5 locks, each of which nobody holds, or 1, 2, 3, or -1, who may not hold any; and some of odd numbers, or of more locks.
func tables() []lock.Table {
	all := []lock.Table{nil, {}}
	grown := []lock.Table{nil}
	for range 5 {
		var next []lock.Table
		for _, t := range grown {
			for who := -1; who <= 3; who++ {
				next = append(next, append(slices.Clone(t), who))
			}
		}
		all = append(all, next...)
		grown = next
	}
	return append(all,
		lock.Table{math.MaxInt, math.MinInt, 0, 1 << 32, 1<<32 + 1, 1},
		lock.Table{1, 2, 1, 2, 0, 0, 1, 3},
		lock.Table{2, 2, 2, 2, 2, 2, 2, 2},
		lock.Table{0, 1, 0, 2, 0, 3, 0, 1, 0, 2, 1, 1},
	)
}

// is is the chapter's word of whether there is a lock i.
func is(t lock.Table, i int) bool {
	return i >= 0 && i < len(t)
}

// with is t, but lock i of that number.
func with(t lock.Table, i int, who int) lock.Table {
	changed := slices.Clone(t)
	changed[i] = who
	return changed
}

// taken is P9.2's words of Take.
func taken(t lock.Table, i int, who int) (lock.Table, api.Errno) {
	switch {
	case !is(t, i) || who < 1:
		return t, api.ErrArg
	case t[i] != 0:
		return t, api.ErrFull
	}
	return with(t, i, who), api.OK
}

// given is P9.2's words of Give.
func given(t lock.Table, i int, who int) (lock.Table, api.Errno) {
	switch {
	case !is(t, i) || who < 1:
		return t, api.ErrArg
	case t[i] != who:
		return t, api.ErrNone
	}
	return with(t, i, 0), api.OK
}

// held is P9.3's words of Held.
func held(t lock.Table, who int) []int {
	var l []int
	for i, holder := range t {
		if who >= 1 && holder == who {
			l = append(l, i)
		}
	}
	return l
}

// first is P9.3's words of First.
func first(t lock.Table, who int) int {
	i := 0
	for slices.Contains(held(t, who), i) {
		i++
	}
	return i
}

// TestNew is P9.1: every number of locks that may be, and wrong ones.
func TestNew(t *testing.T) {
	for _, n := range append(edges, 6) {
		l, e := lock.New(n)
		if n < 1 || n > 8 {
			if len(l) != 0 || e != api.ErrArg {
				t.Errorf("New(%d): %v, %d", n, l, e)
			}
			continue
		}
		if len(l) != n || e != api.OK {
			t.Errorf("New(%d): %v, %d", n, l, e)
		}
		for i, who := range l {
			if who != 0 || !l.Free(i) {
				t.Errorf("New(%d): %v: lock %d is held", n, l, i)
			}
		}
	}
}

// TestFree is P9.1: of all tables, and numbers of locks that there are, and others.
func TestFree(t *testing.T) {
	for _, l := range tables() {
		for _, i := range edges {
			want := is(l, i) && l[i] == 0
			if free := l.Free(i); free != want {
				t.Errorf("%v: Free(%d): %v", l, i, free)
			}
		}
	}
}

// TestTakeExamples is P9.2: the document's example, the edges, and wrong inputs.
func TestTakeExamples(t *testing.T) {
	for _, c := range []struct {
		l      lock.Table
		i, who int
		want   lock.Table
		e      api.Errno
	}{
		{lock.Table{0, 0}, 0, 7, lock.Table{7, 0}, api.OK},
		{lock.Table{0, 0}, 1, 7, lock.Table{0, 7}, api.OK},
		{lock.Table{7, 0}, 1, 7, lock.Table{7, 7}, api.OK},
		{lock.Table{0}, 0, math.MaxInt, lock.Table{math.MaxInt}, api.OK},
		{lock.Table{7, 0}, 0, 8, lock.Table{7, 0}, api.ErrFull},
		// Of him who holds it too.
		{lock.Table{7, 0}, 0, 7, lock.Table{7, 0}, api.ErrFull},
		{lock.Table{-1, 0}, 0, 7, lock.Table{-1, 0}, api.ErrFull},
		{lock.Table{0, 0}, 2, 7, lock.Table{0, 0}, api.ErrArg},
		{lock.Table{0, 0}, -1, 7, lock.Table{0, 0}, api.ErrArg},
		{lock.Table{0, 0}, 0, 0, lock.Table{0, 0}, api.ErrArg},
		{lock.Table{0, 0}, 0, -1, lock.Table{0, 0}, api.ErrArg},
		// ErrArg is told first.
		{lock.Table{7, 0}, 0, 0, lock.Table{7, 0}, api.ErrArg},
		{lock.Table{7, 0}, 0, -7, lock.Table{7, 0}, api.ErrArg},
		{nil, 0, 7, nil, api.ErrArg},
		{lock.Table{}, 0, 7, lock.Table{}, api.ErrArg},
	} {
		if q, e := c.l.Take(c.i, c.who); !slices.Equal(q, c.want) || e != c.e {
			t.Errorf("%v: Take(%d, %d): %v, %d; want %v, %d", c.l, c.i, c.who, q, e, c.want, c.e)
		}
	}
}

// TestGiveExamples is P9.2: ordinary ones, the edges, and wrong inputs.
func TestGiveExamples(t *testing.T) {
	for _, c := range []struct {
		l      lock.Table
		i, who int
		want   lock.Table
		e      api.Errno
	}{
		{lock.Table{7, 0}, 0, 7, lock.Table{0, 0}, api.OK},
		{lock.Table{7, 7}, 1, 7, lock.Table{7, 0}, api.OK},
		{lock.Table{math.MaxInt}, 0, math.MaxInt, lock.Table{0}, api.OK},
		{lock.Table{7, 8}, 1, 7, lock.Table{7, 8}, api.ErrNone},
		{lock.Table{7, 0}, 1, 7, lock.Table{7, 0}, api.ErrNone},
		{lock.Table{7, -1}, 1, 7, lock.Table{7, -1}, api.ErrNone},
		{lock.Table{7, 0}, 2, 7, lock.Table{7, 0}, api.ErrArg},
		{lock.Table{7, 0}, -1, 7, lock.Table{7, 0}, api.ErrArg},
		// Nobody's number gives nothing, not even what is held by such a number.
		{lock.Table{7, 0}, 1, 0, lock.Table{7, 0}, api.ErrArg},
		{lock.Table{7, 0}, 0, 0, lock.Table{7, 0}, api.ErrArg},
		{lock.Table{7, -1}, 1, -1, lock.Table{7, -1}, api.ErrArg},
		{nil, 0, 7, nil, api.ErrArg},
		{lock.Table{}, 0, 7, lock.Table{}, api.ErrArg},
	} {
		if q, e := c.l.Give(c.i, c.who); !slices.Equal(q, c.want) || e != c.e {
			t.Errorf("%v: Give(%d, %d): %v, %d; want %v, %d", c.l, c.i, c.who, q, e, c.want, c.e)
		}
	}
}

// TestTakeAndGiveAreTheirWords is P9.2, of all tables, locks and numbers.
func TestTakeAndGiveAreTheirWords(t *testing.T) {
	for _, l := range tables() {
		for _, i := range edges {
			for _, who := range edges {
				want, wantE := taken(l, i, who)
				if q, e := l.Take(i, who); !slices.Equal(q, want) || e != wantE {
					t.Errorf("%v: Take(%d, %d): %v, %d; want %v, %d", l, i, who, q, e, want, wantE)
				}
				want, wantE = given(l, i, who)
				if q, e := l.Give(i, who); !slices.Equal(q, want) || e != wantE {
					t.Errorf("%v: Give(%d, %d): %v, %d; want %v, %d", l, i, who, q, e, want, wantE)
				}
			}
		}
	}
}

// TestHeldAndFirst is P9.3: none, some, and all; of who may not hold any, and of no locks.
func TestHeldAndFirst(t *testing.T) {
	for _, c := range []struct {
		l     lock.Table
		who   int
		held  []int
		first int
	}{
		{lock.Table{0, 7, 0, 7}, 7, []int{1, 3}, 0},
		{lock.Table{7, 0, 7, 0}, 7, []int{0, 2}, 1},
		{lock.Table{7, 7, 8, 7}, 7, []int{0, 1, 3}, 2},
		{lock.Table{7, 7, 7}, 7, []int{0, 1, 2}, 3},
		{lock.Table{7, 7, 7}, 8, nil, 0},
		{lock.Table{7, 7, 0}, 7, []int{0, 1}, 2},
		{lock.Table{0, 0}, 0, nil, 0},
		{lock.Table{-1, -1}, -1, nil, 0},
		{lock.Table{math.MinInt}, math.MinInt, nil, 0},
		{lock.Table{math.MaxInt, 1}, math.MaxInt, []int{0}, 1},
		{nil, 7, nil, 0},
		{nil, 0, nil, 0},
		{lock.Table{}, 7, nil, 0},
	} {
		if l := c.l.Held(c.who); !slices.Equal(l, c.held) {
			t.Errorf("%v: Held(%d): %v; want %v", c.l, c.who, l, c.held)
		}
		if i := c.l.First(c.who); i != c.first {
			t.Errorf("%v: First(%d): %d; want %d", c.l, c.who, i, c.first)
		}
	}
}

// TestHeldAndFirstAreTheirWords is P9.3, of all tables and numbers.
func TestHeldAndFirstAreTheirWords(t *testing.T) {
	for _, l := range tables() {
		for _, who := range edges {
			if got, want := l.Held(who), held(l, who); !slices.Equal(got, want) {
				t.Errorf("%v: Held(%d): %v; want %v", l, who, got, want)
			}
			if got, want := l.First(who), first(l, who); got != want {
				t.Errorf("%v: First(%d): %d; want %d", l, who, got, want)
			}
		}
	}
}

// TestTakeTwice is the chapter's example: the second Take is ErrFull, whoever asks, till it is given.
func TestTakeTwice(t *testing.T) {
	for _, other := range []int{1, 2} {
		l, _ := lock.New(3)
		l, e := l.Take(1, 1)
		l, f := l.Take(1, other)
		if e != api.OK || f != api.ErrFull || !slices.Equal(l, lock.Table{0, 1, 0}) {
			t.Errorf("by 1, by %d: %v, %d, %d", other, l, e, f)
		}
		l, e = l.Give(1, 1)
		l, f = l.Take(1, other)
		if e != api.OK || f != api.OK || !slices.Equal(l, lock.Table{0, other, 0}) {
			t.Errorf("given; by %d: %v, %d, %d", other, l, e, f)
		}
	}
}

// TestNobodyHoldsAnothers is P9.4: whatever is taken and given from the beginning on, each lock is held by one, or free.
func TestNobodyHoldsAnothers(t *testing.T) {
	const steps, kinds = 5, 8
	count := 1
	for range steps {
		count *= kinds
	}
	for n := range count {
		l, _ := lock.New(2)
		holder := [2]int{}
		for range steps {
			i, who, give := n%2, n/2%2+1, n/4%2 == 1
			n /= kinds
			was := holder
			if give {
				q, e := l.Give(i, who)
				if (e == api.OK) != (was[i] == who) {
					t.Fatalf("%v: Give(%d, %d): %d", l, i, who, e)
				}
				if e == api.OK {
					holder[i] = 0
				}
				l = q
			} else {
				q, e := l.Take(i, who)
				if (e == api.OK) != (was[i] == 0) {
					t.Fatalf("%v: Take(%d, %d): %d", l, i, who, e)
				}
				if e == api.OK {
					holder[i] = who
				}
				l = q
			}
			once(t, l)
			if !slices.Equal(l, holder[:]) {
				t.Fatalf("%v: want %v", l, holder)
			}
		}
	}
}

// once tells, if a lock is held by two, or held and free, or neither.
func once(t *testing.T, l lock.Table) {
	t.Helper()
	for i := range l {
		n := 0
		if l.Free(i) {
			n++
		}
		for who := -1; who <= 4; who++ {
			if slices.Contains(l.Held(who), i) {
				n++
			}
		}
		if n != 1 {
			t.Fatalf("%v: lock %d is told %d times", l, i, n)
		}
	}
}

// TestThereAndBack is P9.4: what is taken and given is as it was, and what is given and taken.
func TestThereAndBack(t *testing.T) {
	back := 0
	for _, l := range tables() {
		for i := range l {
			for who := 1; who <= 4; who++ {
				if q, e := l.Take(i, who); e == api.OK {
					back++
					if r, e := q.Give(i, who); !slices.Equal(r, l) || e != api.OK {
						t.Errorf("%v: Take(%d, %d): %v; and back: %v, %d", l, i, who, q, r, e)
					}
				}
				if q, e := l.Give(i, who); e == api.OK {
					back++
					if r, e := q.Take(i, who); !slices.Equal(r, l) || e != api.OK {
						t.Errorf("%v: Give(%d, %d): %v; and back: %v, %d", l, i, who, q, r, e)
					}
				}
			}
		}
	}
	if back < 100 {
		t.Errorf("%d came back: too few to tell", back)
	}
}

// TestAllInOrder is P9.4: who takes the first lock that he does not hold, again and again, comes to hold all, and gives them back in order.
func TestAllInOrder(t *testing.T) {
	for n := 1; n <= 8; n++ {
		l, _ := lock.New(n)
		for i := range n {
			if l.First(3) != i || len(l.Held(3)) != i {
				t.Errorf("%v: First %d, Held %v", l, l.First(3), l.Held(3))
			}
			l, _ = l.Take(l.First(3), 3)
		}
		if l.First(3) != n {
			t.Errorf("%v: First %d", l, l.First(3))
		}
		for _, i := range l.Held(3) {
			l, _ = l.Give(i, 3)
		}
		if want, _ := lock.New(n); !slices.Equal(l, want) {
			t.Errorf("all given: %v", l)
		}
	}
}

// TestManyLocks is R1: of a long table all calls end.
func TestManyLocks(t *testing.T) {
	l := make(lock.Table, 1000000)
	for i := range l {
		l[i] = 3
	}
	if n := len(l.Held(3)); n != len(l) || l.First(3) != len(l) || l.First(4) != 0 || l.Free(len(l)-1) {
		t.Errorf("%d are held; First %d, %d", n, l.First(3), l.First(4))
	}
	q, e := l.Give(len(l)-1, 3)
	if e != api.OK || !q.Free(len(l)-1) || q.First(3) != len(l)-1 {
		t.Errorf("Give: %d, First %d", e, q.First(3))
	}
}

// TestKeepsWhatIsHandedIn is R5 and R6: a table stays as it is, and so does what lies behind it; what is answered is new memory; the same again is told again.
func TestKeepsWhatIsHandedIn(t *testing.T) {
	for _, l := range tables() {
		behind := append(slices.Clone(l), 77, 78, 79)
		kept := slices.Clone(behind)
		l = behind[:len(l)]
		for i := -1; i <= len(l); i++ {
			for who := -1; who <= 3; who++ {
				told := answers(l, i, who)
				if again := answers(l, i, who); again != told {
					t.Errorf("%v, %d, %d: %s; again: %s", l, i, who, told, again)
				}
				if !slices.Equal(behind, kept) {
					t.Fatalf("%v: changed: %v", kept, behind)
				}
			}
		}
	}
	a, _ := lock.New(4)
	a[0] = 9
	if b, _ := lock.New(4); b[0] != 0 {
		t.Errorf("New, again: %v", b)
	}
}

// answers is what all calls tell of l; the lists are written over behind that.
func answers(l lock.Table, i int, who int) string {
	taken, e := l.Take(i, who)
	given, f := l.Give(i, who)
	held := l.Held(who)
	out := fmt.Sprint(l.Free(i), taken, e, given, f, held, l.First(who))
	for _, told := range [][]int{taken, given, held} {
		told = told[:cap(told)]
		for i := range told {
			told[i] = -99
		}
	}
	return out
}
