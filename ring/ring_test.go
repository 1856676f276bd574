package ring

import (
	"bytes"
	"math"
	"slices"
	"strconv"
	"testing"
)

// model is P2.1 in its words: a list of waiting bytes that is never longer than its size.
type model struct {
	size, lost int
	waiting    []byte
}

func (m *model) put(b []byte) int {
	n := 0
	for _, c := range b {
		if len(m.waiting) < m.size {
			m.waiting = append(m.waiting, c)
			n++
		} else {
			m.lost++
		}
	}
	return n
}

func (m *model) take(n int) []byte {
	var taken []byte
	for len(taken) < n && len(m.waiting) > 0 {
		taken = append(taken, m.waiting[0])
		m.waiting = m.waiting[1:]
	}
	return taken
}

// agree tells whether all that a Ring says of itself is what the model says.
func agree(t *testing.T, what string, r *Ring, m *model) {
	t.Helper()
	if r.Len() != len(m.waiting) || r.Room() != m.size-len(m.waiting) || r.Lost() != m.lost {
		t.Fatalf("%s: Len %d, Room %d, Lost %d, not %d, %d, %d", what, r.Len(), r.Room(), r.Lost(), len(m.waiting), m.size-len(m.waiting), m.lost)
	}
}

// count is n bytes that count on from c, so that each place of one ring has another.
func count(c byte, n int) []byte {
	b := make([]byte, n)
	for i := range b {
		b[i] = c + byte(i) + byte(i>>8)
	}
	return b
}

// P2.1: the example of the chapter.
func TestExample(t *testing.T) {
	r := Of(3)
	if n := r.Put(1, 2); n != 2 {
		t.Errorf("Put 1 2: %d", n)
	}
	if n := r.Put(3, 4); n != 1 {
		t.Errorf("Put 3 4: %d", n)
	}
	if b := r.Take(2); !bytes.Equal(b, []byte{1, 2}) {
		t.Errorf("Take(2): %v", b)
	}
	if n := r.Lost(); n != 1 {
		t.Errorf("Lost: %d", n)
	}
	if b := r.Take(2); !bytes.Equal(b, []byte{3}) {
		t.Errorf("Take(2) again: %v", b)
	}
}

// P2.1: a new Ring is empty, and its room is the size, from 1 to Most. So many bytes really fit in.
func TestSize(t *testing.T) {
	if Most != 4096 {
		t.Errorf("Most: %d", Most)
	}
	for _, c := range []struct{ size, want int }{
		{math.MinInt, 1},
		{-5, 1},
		{-1, 1},
		{0, 1},
		{1, 1},
		{2, 2},
		{3, 3},
		{100, 100},
		{4095, 4095},
		{4096, 4096},
		{4097, 4096},
		{1 << 20, 4096},
		{math.MaxInt, 4096},
	} {
		r := Of(c.size)
		m := &model{size: c.want}
		what := "Of(" + strconv.Itoa(c.size) + ")"
		agree(t, what, r, m)
		if b := r.Take(1); len(b) != 0 {
			t.Errorf("%s: Take(1) %v", what, b)
		}
		b := count(7, c.want+2)
		if n := r.Put(b...); n != c.want {
			t.Errorf("%s: Put %d", what, n)
		}
		m.put(b)
		agree(t, what+", full", r, m)
		if got := r.Take(math.MaxInt); !bytes.Equal(got, b[:c.want]) {
			t.Errorf("%s: Take %d bytes, not the first %d", what, len(got), c.want)
		}
	}
}

// P2.1: the first bytes of a Put are kept and the last ones are lost, with what waits already in front.
func TestPutKeepsTheFirst(t *testing.T) {
	for _, c := range []struct {
		size  int
		parts []string
		put   []int
		all   string
		lost  int
	}{
		{4, []string{""}, []int{0}, "", 0},
		{4, []string{"a"}, []int{1}, "a", 0},
		{4, []string{"abcd"}, []int{4}, "abcd", 0},
		{4, []string{"abcde"}, []int{4}, "abcd", 1},
		{4, []string{"abcdefghi"}, []int{4}, "abcd", 5},
		{4, []string{"ab", "cd"}, []int{2, 2}, "abcd", 0},
		{4, []string{"ab", "cdefg"}, []int{2, 2}, "abcd", 3},
		{4, []string{"abc", "", "de"}, []int{3, 0, 1}, "abcd", 1},
		{4, []string{"abcd", "e", "fg"}, []int{4, 0, 0}, "abcd", 3},
		{1, []string{"ab", "c"}, []int{1, 0}, "a", 2},
		{1, []string{"", "\x00", "b"}, []int{0, 1, 0}, "\x00", 1},
	} {
		r := Of(c.size)
		for i, part := range c.parts {
			if n := r.Put([]byte(part)...); n != c.put[i] {
				t.Errorf("%d %q: Put %q %d, not %d", c.size, c.parts, part, n, c.put[i])
			}
		}
		if r.Len() != len(c.all) || r.Room() != c.size-len(c.all) || r.Lost() != c.lost {
			t.Errorf("%d %q: Len %d, Room %d, Lost %d", c.size, c.parts, r.Len(), r.Room(), r.Lost())
		}
		if b := r.Take(99); string(b) != c.all {
			t.Errorf("%d %q: %q, not %q", c.size, c.parts, b, c.all)
		}
	}
}

// P2.1: Take removes from the front: n, or all if there are fewer, or none if n is less than 1.
func TestTake(t *testing.T) {
	for _, c := range []struct {
		n          int
		want, rest string
	}{
		{math.MinInt, "", "abc"},
		{-1, "", "abc"},
		{0, "", "abc"},
		{1, "a", "bc"},
		{2, "ab", "c"},
		{3, "abc", ""},
		{4, "abc", ""},
		{5, "abc", ""},
		{6, "abc", ""},
		{math.MaxInt, "abc", ""},
	} {
		r := Of(5)
		r.Put('a', 'b', 'c')
		if b := r.Take(c.n); string(b) != c.want {
			t.Errorf("Take(%d): %q, not %q", c.n, b, c.want)
		}
		if r.Len() != len(c.rest) || r.Room() != 5-len(c.rest) || r.Lost() != 0 {
			t.Errorf("after Take(%d): Len %d, Room %d, Lost %d", c.n, r.Len(), r.Room(), r.Lost())
		}
		if b := r.Take(5); string(b) != c.rest {
			t.Errorf("after Take(%d): %q, not %q", c.n, b, c.rest)
		}
	}
}

// P2.1: what is taken makes room, and what was lost stays counted and does not come back.
func TestRoomComesBack(t *testing.T) {
	r := Of(2)
	r.Put('a', 'b', 'x', 'y')
	r.Take(1)
	if r.Lost() != 2 || r.Room() != 1 {
		t.Errorf("Lost %d, Room %d", r.Lost(), r.Room())
	}
	if n := r.Put('c', 'z'); n != 1 {
		t.Errorf("Put: %d", n)
	}
	if b := r.Take(2); string(b) != "bc" {
		t.Errorf("%q", b)
	}
	if r.Lost() != 3 || r.Len() != 0 || r.Room() != 2 {
		t.Errorf("Lost %d, Len %d, Room %d", r.Lost(), r.Len(), r.Room())
	}
}

// P2.1: for every size, every place to begin at, every number of bytes put and taken, around the end of the circle.
func TestAllAround(t *testing.T) {
	for size := 1; size <= 5; size++ {
		for first := range size {
			for wait := range size + 1 {
				for put := range size + 3 {
					for take := -1; take < size+3; take++ {
						around(t, size, first, wait, put, take)
					}
				}
			}
		}
	}
}

// around moves a Ring on by first places, and has it do what the model does.
func around(t *testing.T, size, first, wait, put, take int) {
	t.Helper()
	r, m := Of(size), &model{size: size}
	for range first {
		r.Put(99)
		r.Take(1)
	}
	b := count(1, wait+put)
	r.Put(b[:wait]...)
	m.put(b[:wait])
	if got, want := r.Put(b[wait:]...), m.put(b[wait:]); got != want {
		t.Fatalf("%d at %d: Put %d behind %d: %d, not %d", size, first, put, wait, got, want)
	}
	agree(t, "put", r, m)
	if got, want := r.Take(take), m.take(take); !bytes.Equal(got, want) {
		t.Fatalf("%d at %d: Take(%d) %v, not %v", size, first, take, got, want)
	}
	agree(t, "taken", r, m)
	if got, want := r.Take(size), m.take(size); !bytes.Equal(got, want) {
		t.Fatalf("%d at %d: the rest %v, not %v", size, first, got, want)
	}
	agree(t, "empty", r, m)
}

// P2.1: long runs of parts of changing lengths, in small rings and in the greatest.
func TestLongRuns(t *testing.T) {
	for _, size := range []int{1, 2, 3, 7, 128, 1000, 4095, 4096} {
		r, m := Of(size), &model{size: size}
		seed := uint32(size)
		next := func() int { // a number that looks like any other, the same in every run
			seed = seed*1664525 + 1013904223
			return int(seed>>16) % (size + 3)
		}
		for step := range 2000 {
			b := count(byte(step), next())
			if got, want := r.Put(b...), m.put(b); got != want {
				t.Fatalf("%d, step %d: Put %d, not %d", size, step, got, want)
			}
			agree(t, "put", r, m)
			n := next()
			if got, want := r.Take(n), m.take(n); !bytes.Equal(got, want) {
				t.Fatalf("%d, step %d: Take(%d) has other bytes", size, step, n)
			}
			agree(t, "taken", r, m)
		}
		if m.lost == 0 {
			t.Errorf("%d: nothing was lost, so the run says nothing of it", size)
		}
	}
}

// P2.1: bytes go through as they are, each of the 256.
func TestEveryByte(t *testing.T) {
	all := make([]byte, 256)
	for i := range all {
		all[i] = byte(i)
	}
	r := Of(256)
	if n := r.Put(all...); n != 256 {
		t.Errorf("Put: %d", n)
	}
	if b := r.Take(256); !bytes.Equal(b, all) {
		t.Errorf("%v", b)
	}
}

// P2.1: no bytes at all change nothing, given as nil or empty, in an empty Ring, one that has some and a full one.
func TestPutOfNothing(t *testing.T) {
	r, m := Of(2), &model{size: 2}
	for _, b := range [][]byte{nil, {'a'}, {'b'}, {'c'}} {
		r.Put(b...)
		m.put(b)
		if r.Put() != 0 || r.Put(nil...) != 0 || r.Put([]byte{}...) != 0 {
			t.Errorf("after %q: Put", b)
		}
		agree(t, "nothing", r, m)
	}
}

// P2.1: asking changes nothing.
func TestAskingChangesNothing(t *testing.T) {
	r, m := Of(3), &model{size: 3}
	b := []byte("abcde")
	r.Put(b...)
	m.put(b)
	for range 3 {
		agree(t, "asked", r, m)
	}
	if b := r.Take(3); string(b) != "abc" {
		t.Errorf("%q", b)
	}
}

// P2.1 with W2: two Rings have nothing in common.
func TestRingsAreApart(t *testing.T) {
	r, q := Of(2), Of(2)
	r.Put('a', 'b', 'c')
	if q.Len() != 0 || q.Room() != 2 || q.Lost() != 0 {
		t.Errorf("Len %d, Room %d, Lost %d", q.Len(), q.Room(), q.Lost())
	}
	q.Put('x')
	if a, b := r.Take(2), q.Take(2); string(a) != "ab" || string(b) != "x" {
		t.Errorf("%q %q", a, b)
	}
}

// P2.1 with W6: the bytes that are put are neither modified nor kept, those that are taken are new.
func TestMemoryIsApart(t *testing.T) {
	r := Of(4)
	b := []byte("abcdef")
	before := slices.Clone(b)
	r.Put(b...)
	if !bytes.Equal(b, before) {
		t.Errorf("Put modified its argument: %q", b)
	}
	clear(b)
	taken := r.Take(2)
	r.Put('x', 'y')
	r.Take(0)
	if string(taken) != "ab" {
		t.Errorf("a later call altered what was taken: %q", taken)
	}
	clear(taken)
	_ = append(taken, '?', '?')
	if rest := r.Take(4); string(rest) != "cdxy" {
		t.Errorf("%q", rest)
	}
}

// W1: a Ring that Of did not make has room for nothing, and does not panic.
func TestZeroRing(t *testing.T) {
	var r Ring
	if n := r.Put(1, 2); n != 0 || r.Lost() != 2 {
		t.Errorf("Put %d, Lost %d", n, r.Lost())
	}
	if b := r.Take(1); len(b) != 0 || r.Len() != 0 || r.Room() != 0 {
		t.Errorf("Take %v, Len %d, Room %d", b, r.Len(), r.Room())
	}
}
