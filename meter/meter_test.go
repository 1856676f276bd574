package meter

import (
	"math"
	"math/big"
	"slices"
	"testing"
)

// top is 2^40, the greatest number of a Meter, as the chapter says it.
const top = 1099511627776

// The signatures of the chapter, to the letter.
var (
	_ func(Meter, int, int) Meter = Meter.Add
	_ func(Meter) int             = Meter.Well
	_ func(Meter) int             = Meter.Ill
	_ func(Meter) int             = Meter.Share
	_ func(...Meter) Meter        = Sum
	_ func(Meter, Meter) bool     = Worse
)

// pair is the two numbers of a Meter, for the tests' own reckoning.
type pair struct{ well, ill int }

// meter is the Meter of two numbers by the chapter's first words: a complex number of these parts.
func (p pair) meter() Meter { return Meter(complex(float64(p.well), float64(p.ill))) }

// of is what a Meter says that its numbers are.
func of(m Meter) pair { return pair{m.Well(), m.Ill()} }

// edges are numbers of a Meter at which something could go wrong.
func edges() []int {
	return []int{0, 1, 2, 3, 49, 50, 51, 99, 100, 101, 255, 256, 65535, 65536, 1 << 24, 1<<24 + 1, 1<<31 - 1, 1 << 31, 1<<32 - 1, 1 << 32, 1<<32 + 1, top/2 - 1, top / 2, top/2 + 1, top - 2, top - 1, top}
}

// pairs are all pairs of edges.
func pairs() []pair {
	var list []pair
	for _, well := range edges() {
		for _, ill := range edges() {
			list = append(list, pair{well, ill})
		}
	}
	return list
}

// increased is a number that an argument is added to, in P3.1's words and in integers that have no end.
func increased(number, n int) int {
	limit := big.NewInt(top)
	more := big.NewInt(int64(n))
	if more.Sign() < 0 {
		more.SetInt64(0)
	}
	if more.Cmp(limit) > 0 {
		more.Set(limit)
	}
	more.Add(more, big.NewInt(int64(number)))
	if more.Cmp(limit) > 0 {
		more.Set(limit)
	}
	return int(more.Int64())
}

// share is the Share in P3.1's words, in integers that have no end.
func (p pair) share() int {
	all := new(big.Int).Add(big.NewInt(int64(p.well)), big.NewInt(int64(p.ill)))
	if all.Sign() == 0 {
		return 100
	}
	hundred := new(big.Int).Mul(big.NewInt(100), big.NewInt(int64(p.well)))
	return int(hundred.Div(hundred, all).Int64())
}

// P3.1: the example of the chapter.
func TestExample(t *testing.T) {
	m := Meter(0).Add(3, 1)
	if m.Share() != 75 {
		t.Errorf("Share: %d", m.Share())
	}
	if complex128(m) != complex(3, 1) {
		t.Errorf("the successes are the real part, the failures the imaginary one: %v", m)
	}
}

// P3.1: the zero Meter has counted nothing, and that is a Share of 100.
func TestZeroMeter(t *testing.T) {
	var m Meter
	if of(m) != (pair{0, 0}) || m.Share() != 100 {
		t.Errorf("Well %d, Ill %d, Share %d", m.Well(), m.Ill(), m.Share())
	}
	if Worse(m, m) {
		t.Error("it is worse than itself")
	}
}

// W5: a zero with a sign is a zero.
func TestSignOfZero(t *testing.T) {
	minus := math.Copysign(0, -1)
	for _, m := range []Meter{Meter(complex(minus, 0)), Meter(complex(0, minus)), Meter(complex(minus, minus))} {
		if of(m) != (pair{0, 0}) || m.Share() != 100 || m.Add(0, 0) != 0 || Sum(m) != 0 || Worse(m, 0) || Worse(0, m) {
			t.Errorf("%v: Well %d, Ill %d, Share %d", m, m.Well(), m.Ill(), m.Share())
		}
	}
}

// P3.1: Well and Ill are the two parts, each its own.
func TestWellAndIll(t *testing.T) {
	for _, p := range pairs() {
		if got := of(p.meter()); got != p {
			t.Errorf("of %v: %v", p, got)
		}
	}
}

// P3.1: Add, with numbers that are worked out by hand.
func TestAddKnown(t *testing.T) {
	for _, c := range []struct {
		m         pair
		well, ill int
		want      pair
	}{
		{pair{0, 0}, 0, 0, pair{0, 0}},
		{pair{0, 0}, 1, 0, pair{1, 0}},
		{pair{0, 0}, 0, 1, pair{0, 1}},
		{pair{5, 7}, 2, 3, pair{7, 10}},
		{pair{5, 7}, 0, 0, pair{5, 7}},
		// A negative argument counts as 0, and the other one counts all the same.
		{pair{5, 7}, -1, -1, pair{5, 7}},
		{pair{5, 7}, -1, 4, pair{5, 11}},
		{pair{5, 7}, 4, -1, pair{9, 7}},
		{pair{5, 7}, -5, -7, pair{5, 7}},
		{pair{5, 7}, math.MinInt, math.MinInt, pair{5, 7}},
		{pair{0, 0}, -top, -top, pair{0, 0}},
		{pair{top, top}, -1, math.MinInt, pair{top, top}},
		// An argument that is greater than 2^40.
		{pair{0, 0}, top - 1, top, pair{top - 1, top}},
		{pair{0, 0}, top + 1, top, pair{top, top}},
		{pair{0, 0}, 1 << 50, 0, pair{top, 0}},
		{pair{0, 0}, math.MaxInt, math.MaxInt, pair{top, top}},
		{pair{1, 2}, math.MaxInt, 1, pair{top, 3}},
		{pair{1, 2}, 1, math.MaxInt, pair{2, top}},
		{pair{top, top}, math.MaxInt, math.MaxInt, pair{top, top}},
		{pair{5, 7}, math.MinInt, math.MaxInt, pair{5, top}},
		// A result that is greater than 2^40.
		{pair{top - 3, 0}, 2, 0, pair{top - 1, 0}},
		{pair{top - 3, 0}, 3, 0, pair{top, 0}},
		{pair{top - 3, 0}, 4, 0, pair{top, 0}},
		{pair{0, top - 3}, 0, 2, pair{0, top - 1}},
		{pair{0, top - 3}, 0, 3, pair{0, top}},
		{pair{0, top - 3}, 0, 4, pair{0, top}},
		{pair{top, 0}, 1, 0, pair{top, 0}},
		{pair{0, top}, 0, 1, pair{0, top}},
		{pair{top, top}, top, top, pair{top, top}},
		{pair{top / 2, top / 2}, top / 2, top/2 + 1, pair{top, top}},
	} {
		if got := c.m.meter().Add(c.well, c.ill); got != c.want.meter() {
			t.Errorf("%v Add(%d, %d): %v, not %v", c.m, c.well, c.ill, of(got), c.want)
		}
	}
}

// P3.1: Add, for every number and every argument at an edge.
func TestAddEdges(t *testing.T) {
	arguments := append(edges(), -1, -2, -top, -top-1, top+1, 2*top, 1<<53, 1<<53+1, 1<<62, math.MaxInt-top, math.MaxInt-1, math.MaxInt, math.MinInt, math.MinInt+1)
	for _, number := range edges() {
		for _, n := range arguments {
			want := increased(number, n)
			if got := (pair{number, 3}).meter().Add(n, 1); got != (pair{want, 4}).meter() {
				t.Errorf("well %d and %d: %v, not %d", number, n, of(got), want)
			}
			if got := (pair{3, number}).meter().Add(1, n); got != (pair{4, want}).meter() {
				t.Errorf("ill %d and %d: %v, not %d", number, n, of(got), want)
			}
		}
	}
}

// P3.1: Add goes on from what was added, one by one up to the limit, and the Meter that it is called on stays.
func TestAddAgain(t *testing.T) {
	m := Meter(0)
	for i := range 1000 {
		before := m
		m = m.Add(1, 2)
		if of(before) != (pair{i, 2 * i}) || of(m) != (pair{i + 1, 2*i + 2}) {
			t.Fatalf("%d: %v, then %v", i, of(before), of(m))
		}
	}
	m = pair{top - 5, top - 2}.meter()
	for i := range 9 {
		m = m.Add(1, 1)
		if want := (pair{min(top, top-4+i), min(top, top-1+i)}); of(m) != want {
			t.Fatalf("%d: %v, not %v", i, of(m), want)
		}
	}
}

// P3.1: Share, with numbers that are worked out by hand.
func TestShareKnown(t *testing.T) {
	for _, c := range []struct {
		p    pair
		want int
	}{
		{pair{0, 0}, 100},
		{pair{1, 0}, 100},
		{pair{0, 1}, 0},
		{pair{1, 1}, 50},
		{pair{3, 1}, 75},
		{pair{1, 2}, 33},
		{pair{2, 1}, 66}, // 66.7 is rounded down, not to the nearest
		{pair{1, 3}, 25},
		{pair{199, 1}, 99},  // 99.5
		{pair{1, 98}, 1},    // 1.01
		{pair{1, 99}, 1},    // 1 exactly
		{pair{1, 100}, 0},   // 0.99
		{pair{99, 1}, 99},   // 99 exactly
		{pair{100, 1}, 99},  // 99.01
		{pair{98, 1}, 98},   // 98.99
		{pair{29, 71}, 29},  // 0.29 * 100 is less than 29 in floating point
		{pair{57, 43}, 57},  // so is 0.57 * 100
		{pair{58, 42}, 58},  // and 0.58 * 100
		{pair{top, 0}, 100}, // the limit, and what is beside it
		{pair{top, 1}, 99},
		{pair{0, top}, 0},
		{pair{1, top}, 0},
		{pair{top, top}, 50},
		{pair{top - 1, top}, 49},
		{pair{top, top - 1}, 50},
	} {
		if got := c.p.meter().Share(); got != c.want {
			t.Errorf("of %v: %d, not %d", c.p, got, c.want)
		}
	}
}

// P3.1: Share is rounded down for all small numbers and at the edges.
func TestShareAll(t *testing.T) {
	list := pairs()
	for well := range 210 {
		for ill := range 210 {
			list = append(list, pair{well, ill})
		}
	}
	for _, p := range list {
		if got, want := p.meter().Share(), p.share(); got != want {
			t.Errorf("of %v: %d, not %d", p, got, want)
		}
	}
}

// P3.1: Sum, from the zero Meter on.
func TestSumKnown(t *testing.T) {
	for _, c := range []struct {
		ms   []pair
		want pair
	}{
		{nil, pair{0, 0}},
		{[]pair{{0, 0}}, pair{0, 0}},
		{[]pair{{4, 9}}, pair{4, 9}},
		{[]pair{{1, 2}, {10, 20}}, pair{11, 22}},
		{[]pair{{1, 0}, {0, 1}, {2, 0}, {0, 3}}, pair{3, 4}},
		{[]pair{{0, 0}, {5, 6}, {0, 0}}, pair{5, 6}},
		{[]pair{{top, top}}, pair{top, top}},
		{[]pair{{top, 0}, {1, 1}}, pair{top, 1}},
		{[]pair{{1, 1}, {0, top}}, pair{1, top}},
		{[]pair{{top - 1, 0}, {1, 0}}, pair{top, 0}},
		{[]pair{{top - 1, 0}, {2, 0}}, pair{top, 0}},
		{[]pair{{0, top}, {0, top}, {7, 0}}, pair{7, top}},
		{[]pair{{top, top}, {top, top}, {top, top}}, pair{top, top}},
	} {
		var ms []Meter
		for _, p := range c.ms {
			ms = append(ms, p.meter())
		}
		if got := Sum(ms...); got != c.want.meter() {
			t.Errorf("of %v: %v, not %v", c.ms, of(got), c.want)
		}
	}
	if Sum() != 0 || Sum([]Meter{}...) != 0 {
		t.Error("of none")
	}
	if got := Sum(complex(1, 2), complex(3, 4), complex(5, 6)); got != complex(9, 12) {
		t.Errorf("of three arguments: %v", of(got))
	}
}

// P3.1: Sum of every two Meters at the edges, and of very many.
func TestSumAll(t *testing.T) {
	list := pairs()
	for i, a := range list {
		b := list[(i*37+11)%len(list)]
		want := pair{increased(a.well, b.well), increased(a.ill, b.ill)}
		if got := Sum(a.meter(), b.meter()); got != want.meter() {
			t.Errorf("of %v and %v: %v, not %v", a, b, of(got), want)
		}
	}
	if got, want := Sum(slices.Repeat([]Meter{complex(3, 1)}, 100000)...), Meter(complex(300000, 100000)); got != want {
		t.Errorf("of 100000: %v", of(got))
	}
	if got, want := Sum(slices.Repeat([]Meter{complex(1<<30, 1)}, 2000)...), Meter(complex(top, 2000)); got != want {
		t.Errorf("beyond the limit: %v", of(got))
	}
}

// P3.1 with W6: the Meters that are summed stay, and are not kept.
func TestSumArgumentsStay(t *testing.T) {
	ms := []Meter{complex(1, 2), complex(top, 4), complex(5, 6)}
	before := slices.Clone(ms)
	got := Sum(ms...)
	if !slices.Equal(ms, before) {
		t.Errorf("%v", ms)
	}
	clear(ms)
	if got != complex(top, 12) || Sum(before...) != got {
		t.Errorf("%v", of(got))
	}
}

// P3.1: Worse, with numbers that are worked out by hand.
func TestWorseKnown(t *testing.T) {
	for _, c := range []struct {
		name string
		a, b pair
		want bool
	}{
		{"both zero", pair{0, 0}, pair{0, 0}, false},
		{"the same", pair{3, 4}, pair{3, 4}, false},
		{"less Share", pair{1, 2}, pair{1, 1}, true},
		{"greater Share", pair{1, 1}, pair{1, 2}, false},
		{"less Share, fewer failures", pair{0, 1}, pair{50, 50}, true},
		{"greater Share, more failures", pair{50, 50}, pair{0, 1}, false},
		{"same Share, more failures", pair{2, 2}, pair{1, 1}, true},
		{"same Share, fewer failures", pair{1, 1}, pair{2, 2}, false},
		{"same Share, same failures, fewer successes", pair{1000, 1}, pair{2000, 1}, false},
		{"same Share, same failures, more successes", pair{2000, 1}, pair{1000, 1}, false},
		{"same Share when rounded, more failures, though the greater part", pair{299, 200}, pair{59, 41}, true},
		{"same Share when rounded, fewer failures, though the lesser part", pair{59, 41}, pair{299, 200}, false},
		{"no successes, more failures", pair{0, 2}, pair{0, 1}, true},
		{"no successes, fewer failures", pair{0, 1}, pair{0, 2}, false},
		{"nothing counted against successes only", pair{0, 0}, pair{9, 0}, false},
		{"successes only against nothing counted", pair{9, 0}, pair{0, 0}, false},
		{"nothing counted against failures", pair{0, 0}, pair{0, 1}, false},
		{"failures against nothing counted", pair{0, 1}, pair{0, 0}, true},
		{"one failure of very many against none", pair{top, 1}, pair{1, 0}, true},
		{"the limit", pair{top, top}, pair{top, top - 1}, true},
		{"the limit, the other way round", pair{top, top - 1}, pair{top, top}, false},
	} {
		if got := Worse(c.a.meter(), c.b.meter()); got != c.want {
			t.Errorf("%s: %v and %v: %v", c.name, c.a, c.b, got)
		}
	}
}

// P3.1: Worse of every two Meters of small numbers, and of every two at the edges.
func TestWorseAll(t *testing.T) {
	var small []pair
	for well := range 16 {
		for ill := range 16 {
			small = append(small, pair{well, ill})
		}
	}
	for _, list := range [][]pair{small, pairs()} {
		shares := make([]int, len(list))
		for i, p := range list {
			shares[i] = p.share()
		}
		for i, a := range list {
			for j, b := range list {
				want := shares[i] < shares[j] || shares[i] == shares[j] && a.ill > b.ill
				if got := Worse(a.meter(), b.meter()); got != want {
					t.Fatalf("%v and %v: %v", a, b, got)
				}
			}
		}
	}
}

// The chapter promises of a Meter of other parts only that the calls end and don't panic.
func TestOtherMeters(t *testing.T) {
	parts := []float64{math.NaN(), math.Inf(1), math.Inf(-1), -1, -0.5, 0.5, 1, 99.99, -top, top + 1, top + 0.5, math.MaxInt, math.MinInt, 1 << 63, math.MaxFloat64, -math.MaxFloat64, math.SmallestNonzeroFloat64, 0}
	var ms []Meter
	for _, well := range parts {
		for _, ill := range parts {
			ms = append(ms, Meter(complex(well, ill)))
		}
	}
	for i, m := range ms {
		m.Well()
		m.Ill()
		m.Share()
		for _, n := range []int{0, 1, -1, top, math.MaxInt, math.MinInt} {
			m.Add(n, n).Share()
		}
		Sum(ms[:i]...).Share()
		Worse(m, ms[len(ms)-1-i])
		Worse(m, 0)
		Worse(0, m)
	}
}
