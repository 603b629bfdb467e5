package pot_test

import (
	"math"
	"math/big"
	"testing"

	"hopper/api"
	"hopper/pot"
)

// edges: numbers at which bounds lie, or sums of 64 bits turn round, or a float has no place for each whole number, and plain ones.
var edges = []int{
	math.MinInt, math.MinInt + 1, -1<<53 - 1, -1 << 32, -1001, -1000, -999, -11, -10, -5, -2, -1, 0, 1, 2, 3, 5, 9, 10, 11,
	499, 500, 501, 998, 999, 1000, 1001, 1 << 32, 1<<53 - 1, 1<<53 + 1, math.MaxInt - 1000, math.MaxInt - 1, math.MaxInt,
}

// pots: of all edges, such as may be and others.
func pots() []pot.Pot {
	var l []pot.Pot
	for _, taken := range edges {
		for _, most := range edges {
			l = append(l, pot.Pot{Taken: taken, Most: most})
		}
	}
	return l
}

// small: all pots of at most 12 that may be.
func small() []pot.Pot {
	var l []pot.Pot
	for most := 1; most <= 12; most++ {
		for taken := 0; taken <= most; taken++ {
			l = append(l, pot.Pot{Taken: taken, Most: most})
		}
	}
	return l
}

// may is the chapter's word of which pots may be.
func may(p pot.Pot) bool {
	return p.Most >= 1 && p.Most <= 1000 && p.Taken >= 0 && p.Taken <= p.Most
}

// adjusted is P7.2's words, counted with numbers however great.
func adjusted(p pot.Pot, delta int) (pot.Pot, api.Errno) {
	sum := new(big.Int).Add(big.NewInt(int64(p.Taken)), big.NewInt(int64(delta)))
	switch {
	case !may(p) || sum.Sign() < 0:
		return p, api.ErrArg
	case sum.Cmp(big.NewInt(int64(p.Most))) > 0:
		return p, api.ErrFull
	}
	return pot.Pot{Taken: int(sum.Int64()), Most: p.Most}, api.OK
}

// TestNew is P7.1: every most that may be, and wrong ones.
func TestNew(t *testing.T) {
	for most := 1; most <= 1000; most++ {
		if p, e := pot.New(most); p != (pot.Pot{Taken: 0, Most: most}) || e != api.OK {
			t.Errorf("New(%d): %v, %d", most, p, e)
		}
	}
	for _, most := range []int{math.MinInt, -1000, -1, 0, 1001, 1002, 1 << 32, 1<<32 + 1, math.MaxInt} {
		if p, e := pot.New(most); p != (pot.Pot{}) || e != api.ErrArg {
			t.Errorf("New(%d): %v, %d", most, p, e)
		}
	}
}

// TestAdjustExamples is P7.2: the document's example, the edges, and wrong inputs.
func TestAdjustExamples(t *testing.T) {
	for _, c := range []struct {
		taken, most, delta, want int
		e                        api.Errno
	}{
		{6, 10, 5, 6, api.ErrFull},
		{6, 10, 4, 10, api.OK},
		{6, 10, 3, 9, api.OK},
		{6, 10, 0, 6, api.OK},
		{6, 10, -6, 0, api.OK},
		{6, 10, -7, 6, api.ErrArg},
		{0, 1, 1, 1, api.OK},
		{0, 1, 2, 0, api.ErrFull},
		{0, 1, -1, 0, api.ErrArg},
		{0, 1000, 1000, 1000, api.OK},
		{0, 1000, 1001, 0, api.ErrFull},
		{1000, 1000, 0, 1000, api.OK},
		{1000, 1000, 1, 1000, api.ErrFull},
		{1000, 1000, -1000, 0, api.OK},
		{1000, 1000, -1001, 1000, api.ErrArg},
		{999, 1000, math.MaxInt, 999, api.ErrFull},
		{999, 1000, math.MinInt, 999, api.ErrArg},
		// A pot that may not be is told first, whatever delta is.
		{11, 10, 0, 11, api.ErrArg},
		{11, 10, 1, 11, api.ErrArg},
		{11, 10, -1, 11, api.ErrArg},
		{-1, 10, 1, -1, api.ErrArg},
		{-1, 10, 100, -1, api.ErrArg},
		{0, 0, 0, 0, api.ErrArg},
		{0, 0, 1, 0, api.ErrArg},
		{0, -1, 0, 0, api.ErrArg},
		{0, 1001, 1, 0, api.ErrArg},
		{1001, 1001, -1, 1001, api.ErrArg},
		{math.MaxInt, math.MaxInt, 1, math.MaxInt, api.ErrArg},
		{math.MinInt, math.MinInt, math.MinInt, math.MinInt, api.ErrArg},
	} {
		p := pot.Pot{Taken: c.taken, Most: c.most}
		if q, e := p.Adjust(c.delta); q != (pot.Pot{Taken: c.want, Most: c.most}) || e != c.e {
			t.Errorf("%v: Adjust(%d): %v, %d; want %d, %d", p, c.delta, q, e, c.want, c.e)
		}
	}
}

// TestAdjustIsItsWords is P7.2, of all pots and deltas at edges, and of all small ones.
func TestAdjustIsItsWords(t *testing.T) {
	check := func(p pot.Pot, delta int) {
		want, wantE := adjusted(p, delta)
		if q, e := p.Adjust(delta); q != want || e != wantE {
			t.Errorf("%v: Adjust(%d): %v, %d; want %v, %d", p, delta, q, e, want, wantE)
		}
	}
	for _, p := range pots() {
		for _, delta := range edges {
			check(p, delta)
		}
	}
	for taken := -2; taken <= 14; taken++ {
		for most := -2; most <= 12; most++ {
			for delta := -20; delta <= 20; delta++ {
				check(pot.Pot{Taken: taken, Most: most}, delta)
			}
		}
	}
}

// TestFree is P7.3: the edges, all small pots, and those that may not be.
func TestFree(t *testing.T) {
	for _, p := range append(pots(), small()...) {
		want := 0
		if may(p) {
			want = p.Most - p.Taken
		}
		if n := p.Free(); n != want {
			t.Errorf("%v: Free: %d; want %d", p, n, want)
		}
	}
	for i, c := range []struct {
		p    pot.Pot
		want int
	}{
		{pot.Pot{Taken: 6, Most: 10}, 4},
		{pot.Pot{Taken: 0, Most: 1000}, 1000},
		{pot.Pot{Taken: 1000, Most: 1000}, 0},
		{pot.Pot{Taken: 11, Most: 10}, 0},
		{pot.Pot{Taken: -1, Most: 10}, 0},
		{pot.Pot{Taken: 5, Most: 1001}, 0},
		{pot.Pot{}, 0},
	} {
		if n := c.p.Free(); n != c.want {
			t.Errorf("case %d: %v: Free: %d; want %d", i, c.p, n, c.want)
		}
	}
}

// TestOver is P7.3: soft below, at and above what is taken, soft that may not be, and pots that may not be.
func TestOver(t *testing.T) {
	for _, p := range append(pots(), small()...) {
		for _, soft := range append(edges, 4, 6, 7, 8, 12) {
			want := 0
			if may(p) && soft >= 0 && p.Taken > soft {
				want = p.Taken - soft
			}
			if n := p.Over(soft); n != want {
				t.Errorf("%v: Over(%d): %d; want %d", p, soft, n, want)
			}
		}
	}
	for i, c := range []struct {
		p          pot.Pot
		soft, want int
	}{
		{pot.Pot{Taken: 6, Most: 10}, 4, 2},
		{pot.Pot{Taken: 6, Most: 10}, 5, 1},
		{pot.Pot{Taken: 6, Most: 10}, 6, 0},
		{pot.Pot{Taken: 6, Most: 10}, 7, 0},
		{pot.Pot{Taken: 6, Most: 10}, 0, 6},
		{pot.Pot{Taken: 6, Most: 10}, -1, 0},
		{pot.Pot{Taken: 6, Most: 10}, math.MinInt, 0},
		{pot.Pot{Taken: 6, Most: 10}, math.MaxInt, 0},
		{pot.Pot{Taken: 1000, Most: 1000}, 0, 1000},
		{pot.Pot{Taken: 0, Most: 1000}, 0, 0},
		{pot.Pot{Taken: 11, Most: 10}, 0, 0},
		{pot.Pot{Taken: 5, Most: 1001}, 0, 0},
		{pot.Pot{Taken: 5, Most: 0}, 0, 0},
	} {
		if n := c.p.Over(c.soft); n != c.want {
			t.Errorf("case %d: %v: Over(%d): %d; want %d", i, c.p, c.soft, n, c.want)
		}
	}
}

// TestAdjustedMayBe is P7.4: what is adjusted may be, and what is taken and free is so by delta.
func TestAdjustedMayBe(t *testing.T) {
	for _, p := range append(pots(), small()...) {
		for _, delta := range append(edges, -9, -7, 4, 7, 8) {
			q, e := p.Adjust(delta)
			if e != api.OK {
				continue
			}
			if _, e := q.Adjust(0); e != api.OK || !may(q) {
				t.Errorf("%v: Adjust(%d): %v: may not be", p, delta, q)
			}
			if q.Taken != p.Taken+delta || q.Free() != p.Free()-delta || q.Over(0) != p.Over(0)+delta {
				t.Errorf("%v: Adjust(%d): %v", p, delta, q)
			}
		}
	}
}

// TestThereAndBack is P7.4: it is as it was.
func TestThereAndBack(t *testing.T) {
	back := 0
	for _, p := range append(pots(), small()...) {
		for _, delta := range append(edges, -9, -7, 4, 7, 8) {
			q, e := p.Adjust(delta)
			if e != api.OK {
				continue
			}
			back++
			if r, e := q.Adjust(-delta); r != p || e != api.OK {
				t.Errorf("%v: by %d: %v; and back: %v, %d", p, delta, q, r, e)
			}
		}
	}
	if back < 100 {
		t.Errorf("%d came back: too few to tell", back)
	}
}

// TestFirstOfTwo is P7.4: of two that can each be taken, but not both, the first one is, and the second one changes nothing.
func TestFirstOfTwo(t *testing.T) {
	for _, p := range small() {
		free := p.Most - p.Taken
		for one := 1; one <= free; one++ {
			for other := free - one + 1; other <= free; other++ {
				q, e := p.Adjust(one)
				r, f := q.Adjust(other)
				if e != api.OK || f != api.ErrFull || q.Taken != p.Taken+one || r != q {
					t.Errorf("%v: %d: %v, %d; then %d: %v, %d", p, one, q, e, other, r, f)
				}
			}
		}
	}
}

// TestKeepsWhatIsHandedIn is R5 and R6: a pot stays as it was, and the same again is told again.
func TestKeepsWhatIsHandedIn(t *testing.T) {
	p := pot.Pot{Taken: 6, Most: 10}
	for range 2 {
		q, e := p.Adjust(3)
		if q.Taken != 9 || e != api.OK || p.Free() != 4 || p.Over(4) != 2 {
			t.Errorf("%v, %d; %d free, %d over", q, e, p.Free(), p.Over(4))
		}
		if p != (pot.Pot{Taken: 6, Most: 10}) {
			t.Fatalf("changed: %v", p)
		}
	}
}
