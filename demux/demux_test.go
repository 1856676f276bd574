package demux

import (
	"bytes"
	"math"
	"math/rand"
	"slices"
	"strconv"
	"strings"
	"testing"
)

var (
	_ func(Mode) *Demux                 = Of
	_ func(*Demux, Mode)                = (*Demux).Switch
	_ func(*Demux, byte) Mode           = (*Demux).Put
	_ func(*Demux) Mode                 = (*Demux).Mode
	_ func(*Demux) int                  = (*Demux).Len
	_ func(*Demux) []Segment            = (*Demux).Segments
	_ func(*Demux, []byte, Mode) []byte = (*Demux).Part

	_ = int(Purge)
	_ = Segment{Mode: Mode(0), From: int(0), Size: int(0)}
)

// letters are the three modes in their order; "?" is a mode that there is not.
const letters = "ptx"

// stranger are modes that there are not: about those that there are, and such that have the same last 8, 16 or 32 bits.
func stranger() []Mode {
	return []Mode{math.MinInt, math.MinInt + 1, math.MinInt + 2, -1 << 32, -257, -256, -3, -2, -1, 3, 4, 5, 9, 255, 256, 257, 258, 1<<16 + 1, 1<<16 + 2, 1<<32 + 1, 1<<32 + 2, 1<<62 + 1, math.MaxInt - 1, math.MaxInt}
}

// mode is what a letter stands for.
func mode(c byte) Mode {
	if c == '?' {
		return 7
	}
	return Mode(strings.IndexByte(letters, c))
}

// do has a Demux go through a run: a letter switches, "." puts a byte. It is what the Puts answered, in letters.
func do(d *Demux, run string) string {
	var said []byte
	for i := range len(run) {
		if run[i] == '.' {
			said = append(said, letters[d.Put(byte(i))])
		} else {
			d.Switch(mode(run[i]))
		}
	}
	return string(said)
}

// made is a Demux that went through a run, whose first letter is the mode it was made with.
func made(run string) *Demux {
	d := Of(mode(run[0]))
	do(d, run[1:])
	return d
}

// tell writes segments as t0+2 x2+1.
func tell(segments []Segment) string {
	var said []string
	for _, s := range segments {
		said = append(said, letters[s.Mode:s.Mode+1]+strconv.Itoa(s.From)+"+"+strconv.Itoa(s.Size))
	}
	return strings.Join(said, " ")
}

// reading is the chapter in its words: the current mode, and the mode of each byte that was assigned.
type reading struct {
	mode  Mode
	bytes []Mode
}

func (r *reading) turn(m Mode) {
	switch m {
	case 1, 2:
		r.mode = m
	default:
		r.mode = 0
	}
}

func (r *reading) put() Mode {
	r.bytes = append(r.bytes, r.mode)
	return r.mode
}

// around are the bounds of the maximal sequence in which a byte is.
func (r *reading) around(i int) (from, end int) {
	for from = i; from > 0 && r.bytes[from-1] == r.bytes[i]; from-- {
	}
	for end = i + 1; end < len(r.bytes) && r.bytes[end] == r.bytes[i]; end++ {
	}
	return from, end
}

func (r *reading) segments() []Segment {
	var all []Segment
	for i := range r.bytes {
		if from, end := r.around(i); from == i {
			all = append(all, Segment{r.bytes[i], from, end - from})
		}
	}
	return all
}

func (r *reading) part(b []byte, m Mode) []byte {
	var part []byte
	for i, of := range r.bytes {
		if _, end := r.around(i); of == m && end <= len(b) {
			part = append(part, b[i])
		}
	}
	return part
}

// agree tells whether all that a Demux says of itself is what the reading says.
func agree(t *testing.T, what string, d *Demux, r *reading) {
	t.Helper()
	if d.Mode() != r.mode || d.Len() != len(r.bytes) || !slices.Equal(d.Segments(), r.segments()) {
		t.Fatalf("%s: Mode %d, Len %d, Segments %v, not %d, %d, %v", what, d.Mode(), d.Len(), d.Segments(), r.mode, len(r.bytes), r.segments())
	}
}

// agreeParts tells whether the parts of each mode are those of the reading, for every number of bytes up to some more than were assigned.
func agreeParts(t *testing.T, what string, d *Demux, r *reading) {
	t.Helper()
	b := []byte("abcdefghijklmnopqrstuvwxyz")[:len(r.bytes)+2]
	for n := range len(b) + 1 {
		for m := Mode(-1); m <= 4; m++ {
			if got, want := d.Part(b[:n], m), r.part(b[:n], m); !bytes.Equal(got, want) {
				t.Fatalf("%s: Part(%q, %d) %q, not %q", what, b[:n], m, got, want)
			}
		}
	}
}

// P14.1: the modes are what the chapter lists, in its order.
func TestNumbers(t *testing.T) {
	if Purge != 0 || Text != 1 || Transfer != 2 {
		t.Error(Purge, Text, Transfer)
	}
}

// P14.1 and P14.2: the example of the chapter.
func TestExample(t *testing.T) {
	d := Of(Text)
	if m := d.Put('a'); m != Text {
		t.Error(m)
	}
	d.Switch(Transfer)
	if a, b := d.Put('b'), d.Put('c'); a != Transfer || b != Transfer {
		t.Error(a, b)
	}
	if s := d.Segments(); !slices.Equal(s, []Segment{{Text, 0, 1}, {Transfer, 1, 2}}) {
		t.Error(s)
	}
	if a, b := d.Part([]byte("abc"), Text), d.Part([]byte("abc"), Transfer); string(a) != "a" || string(b) != "bc" {
		t.Errorf("%q %q", a, b)
	}
}

// fresh tells whether a Demux has this mode and no bytes.
func fresh(t *testing.T, d *Demux, want Mode) {
	t.Helper()
	if d.Mode() != want || d.Len() != 0 || len(d.Segments()) != 0 {
		t.Error(want, d.Mode(), d.Len(), d.Segments())
	}
	for m := Mode(-1); m <= 3; m++ {
		if b := d.Part([]byte("abc"), m); len(b) != 0 {
			t.Errorf("%d: Part(%d) %q", want, m, b)
		}
	}
}

// P14.1: a new Demux has the mode it was made with, and no bytes; what is no mode counts as Purge.
func TestOf(t *testing.T) {
	for _, m := range []Mode{Purge, Text, Transfer} {
		d := Of(m)
		fresh(t, d, m)
		if got := d.Put('a'); got != m || d.Mode() != m || d.Len() != 1 {
			t.Error(m, got, d.Mode(), d.Len())
		}
	}
	for _, m := range stranger() {
		d := Of(m)
		fresh(t, d, Purge)
		if got := d.Put('a'); got != Purge || !slices.Equal(d.Segments(), []Segment{{Purge, 0, 1}}) {
			t.Error(m, got, d.Segments())
		}
	}
}

// P14.1: Switch sets the mode, from each to each, and what is no mode counts as Purge; no byte is assigned by it.
func TestSwitch(t *testing.T) {
	for was := range Mode(4) {
		for _, m := range append(stranger(), Purge, Text, Transfer) {
			want := m
			if m != Text && m != Transfer {
				want = Purge
			}
			d := Of(was)
			d.Switch(m)
			fresh(t, d, want)
			if got := d.Put('a'); got != want || !slices.Equal(d.Segments(), []Segment{{want, 0, 1}}) {
				t.Error(was, m, got, d.Segments())
			}
			d.Switch(was)
			d.Switch(m)
			if got := d.Put('b'); got != want || d.Mode() != want || !slices.Equal(d.Segments(), []Segment{{want, 0, 2}}) {
				t.Error(was, m, got, d.Mode(), d.Segments())
			}
		}
	}
}

// P14.1 and P14.2: runs worked out by hand: what each Put answers, and the segments.
func TestRuns(t *testing.T) {
	for _, c := range []struct{ run, said, segments string }{
		{"p", "", ""},
		{"t", "", ""},
		{"x", "", ""},
		{"?", "", ""},
		{"pt", "", ""},
		{"txptx", "", ""},
		{"p.", "p", "p0+1"},
		{"t.", "t", "t0+1"},
		{"x.", "x", "x0+1"},
		{"?.", "p", "p0+1"},
		{"p...", "ppp", "p0+3"},
		{"t...", "ttt", "t0+3"},
		{"x...", "xxx", "x0+3"},
		{"t.x..", "txx", "t0+1 x1+2"},
		{"x.t..", "xtt", "x0+1 t1+2"},
		{"p.t..", "ptt", "p0+1 t1+2"},
		{"t.p..", "tpp", "t0+1 p1+2"},
		{"x..p.", "xxp", "x0+2 p2+1"},
		{"tx.", "x", "x0+1"},
		{"txp.", "p", "p0+1"},
		{"t.t.", "tt", "t0+2"},
		{"p.p.", "pp", "p0+2"},
		{"t.xt.", "tt", "t0+2"},
		{"t.xpt.", "tt", "t0+2"},
		{"p.tp.", "pp", "p0+2"},
		{"p.?.", "pp", "p0+2"},
		{"?.p.", "pp", "p0+2"},
		{"p.t?.", "pp", "p0+2"},
		{"t.?.t.", "tpt", "t0+1 p1+1 t2+1"},
		{"t.x.t.", "txt", "t0+1 x1+1 t2+1"},
		{"t.x.t.x.", "txtx", "t0+1 x1+1 t2+1 x3+1"},
		{"t.x.p.t.x.p.", "txptxp", "t0+1 x1+1 p2+1 t3+1 x4+1 p5+1"},
		{"t..x...p....t.", "ttxxxppppt", "t0+2 x2+3 p5+4 t9+1"},
		{"t.xpx.", "tx", "t0+1 x1+1"},
		{"t.x.xt", "tx", "t0+1 x1+1"},
		{"t.xx..tt.", "txxt", "t0+1 x1+2 t3+1"},
		{"pt.x", "t", "t0+1"},
	} {
		d := Of(mode(c.run[0]))
		said := do(d, c.run[1:])
		if said != c.said || tell(d.Segments()) != c.segments || d.Len() != len(c.said) {
			t.Errorf("%s: %q, %q, Len %d, not %q, %q, %d", c.run, said, tell(d.Segments()), d.Len(), c.said, c.segments, len(c.said))
		}
	}
}

// P14.1: Mode is what was switched to last, also when no byte came since.
func TestMode(t *testing.T) {
	for _, c := range []struct {
		run  string
		want Mode
	}{
		{"t.x", Transfer},
		{"t.xp", Purge},
		{"t.x.t", Text},
		{"t.x.?", Purge},
		{"x..tx", Transfer},
		{"p..", Purge},
		{"t..", Text},
		{"x..", Transfer},
	} {
		if got := made(c.run).Mode(); got != c.want {
			t.Error(c.run, got, c.want)
		}
	}
}

// P14.2: parts worked out by hand, also of bytes that do not hold all that was assigned, or more.
func TestPart(t *testing.T) {
	for _, c := range []struct{ run, bytes, purge, text, transfer string }{
		{"t", "", "", "", ""},
		{"t", "abc", "", "", ""},
		{"t..", "ab", "", "ab", ""},
		{"x..", "ab", "", "", "ab"},
		{"p..", "ab", "ab", "", ""},
		{"?..", "ab", "ab", "", ""},
		{"t..x.", "abc", "", "ab", "c"},
		{"t.x.t.", "abc", "", "ac", "b"},
		{"t..x..t.p..", "ab12c34", "34", "abc", "12"},
		{"t.x.p.t.x.p.", "abcdef", "cf", "ad", "be"},

		// more bytes than were assigned: what is behind them is nobody's
		{"t..", "abc", "", "ab", ""},
		{"t..x", "abc", "", "ab", ""},
		{"t.x.", "abcdef", "", "a", "b"},
		{"p.", "ab", "a", "", ""},

		// fewer bytes: a segment that is not there as a whole is omitted, and those behind it too
		{"t..", "a", "", "", ""},
		{"t..", "", "", "", ""},
		{"t..x..", "abc", "", "ab", ""},
		{"t..x..", "ab", "", "ab", ""},
		{"t..x..", "a", "", "", ""},
		{"t..x..t..", "abcde", "", "ab", "cd"},
		{"t..x..t..", "abcd", "", "ab", "cd"},
		{"t..x..t..", "abc", "", "ab", ""},
		{"t.x.p.", "ab", "", "a", "b"},
		{"t.x.p.", "a", "", "a", ""},
		{"t.x.p.", "", "", "", ""},
		{"t..x..t.p..", "ab12c3", "", "abc", "12"},
		{"t.xt.", "a", "", "", ""},
		{"t.xt.", "ab", "", "ab", ""},

		// bytes that are equal are told apart by where they are
		{"t.x.t.x.", "aaaa", "", "aa", "aa"},
		{"t.x..", "\x00\xff\x00", "", "\x00", "\xff\x00"},
	} {
		d := made(c.run)
		b := []byte(c.bytes)
		for m, want := range []string{c.purge, c.text, c.transfer} {
			if got := d.Part(b, Mode(m)); string(got) != want {
				t.Errorf("%s, %q: Part of %c %q, not %q", c.run, c.bytes, letters[m], got, want)
			}
		}
		for _, m := range stranger() {
			if got := d.Part(b, m); len(got) != 0 {
				t.Errorf("%s, %q: Part(%d) %q", c.run, c.bytes, m, got)
			}
		}
	}
	if b := made("t..x.").Part(nil, Text); len(b) != 0 {
		t.Errorf("of nil: %q", b)
	}
}

// P14.2: what is assigned later does not alter the parts of what was there, but a segment grows as a whole.
func TestPartGrows(t *testing.T) {
	d := Of(Text)
	b := []byte("abcd")
	for i, want := range []string{"", "a", "ab", "ab", "abd"} {
		if got := d.Part(b[:i], Text); string(got) != want {
			t.Errorf("%d: %q, not %q", i, got, want)
		}
		if i == 2 {
			d.Switch(Transfer)
		}
		if i == 3 {
			d.Switch(Text)
		}
		if i < 4 {
			d.Put(b[i])
		}
	}
	if got := d.Part(b[:3], Transfer); string(got) != "c" {
		t.Errorf("%q", got)
	}
}

// P14.1: which byte it is does not matter, in any mode and behind any.
func TestEveryByte(t *testing.T) {
	for m := range Mode(3) {
		d := Of(m)
		all := make([]byte, 256)
		for c := range all {
			all[c] = byte(c)
			if got := d.Put(byte(c)); got != m || d.Len() != c+1 {
				t.Fatal(m, c, got, d.Len())
			}
		}
		if s := d.Segments(); !slices.Equal(s, []Segment{{m, 0, 256}}) {
			t.Error(m, s)
		}
		if b := d.Part(all, m); !bytes.Equal(b, all) {
			t.Errorf("%d: %q", m, b)
		}
	}
	for c := range 256 {
		d := Of(Text)
		d.Put(byte(c))
		d.Switch(Transfer)
		d.Put(byte(c))
		b := []byte{byte(c), byte(c)}
		if !slices.Equal(d.Segments(), []Segment{{Text, 0, 1}, {Transfer, 1, 1}}) || !bytes.Equal(d.Part(b, Text), b[:1]) || !bytes.Equal(d.Part(b, Transfer), b[:1]) {
			t.Error(c, d.Segments())
		}
	}
}

// walk goes through all runs of so many steps behind one.
func walk(run string, steps int, visit func(string)) {
	visit(run)
	if steps == 0 {
		return
	}
	for _, c := range "ptx?." {
		walk(run+string(c), steps-1, visit)
	}
}

// P14.1 and P14.2: every run of up to six steps, behind each mode to begin with, against the reading.
func TestAllRuns(t *testing.T) {
	for _, first := range "ptx?" {
		walk(string(first), 6, func(run string) {
			d, r := Of(mode(run[0])), &reading{}
			r.turn(mode(run[0]))
			for i := range len(run) - 1 {
				step(t, run, d, r, run[i+1])
			}
			agree(t, run, d, r)
			agreeParts(t, run, d, r)
		})
	}
}

// step has both do what a letter says.
func step(t *testing.T, run string, d *Demux, r *reading, c byte) {
	t.Helper()
	if c == '.' {
		if got, want := d.Put(c), r.put(); got != want {
			t.Fatalf("%s: Put %d, not %d", run, got, want)
		}
		return
	}
	d.Switch(mode(c))
	r.turn(mode(c))
}

// P14.1 and P14.2: every assignment of up to nine bytes, against the reading: each byte switches to its mode.
func TestAllAssignments(t *testing.T) {
	for n := range 10 {
		for number := range int(math.Pow(3, float64(n))) {
			d, r := Of(Text), &reading{mode: Text}
			run := ""
			for rest, i := number, 0; i < n; i, rest = i+1, rest/3 {
				run += letters[rest%3 : rest%3+1]
				step(t, run, d, r, run[i])
				step(t, run, d, r, '.')
			}
			agree(t, run, d, r)
			agreeParts(t, run, d, r)
		}
	}
}

// P14.1 and P14.2: longer runs by chance, asked in between, against the reading.
func TestChance(t *testing.T) {
	chance := rand.New(rand.NewSource(14))
	for range 300 {
		d, r := Of(Purge), &reading{}
		steps := []string{"ptx?.", "ptx?......", "ptx?.............................."}[chance.Intn(3)]
		var run []byte
		for range chance.Intn(300) {
			c := steps[chance.Intn(len(steps))]
			run = append(run, c)
			step(t, string(run), d, r, c)
			if chance.Intn(5) == 0 {
				agree(t, string(run), d, r)
			}
		}
		agree(t, string(run), d, r)
		b := make([]byte, len(r.bytes)+3)
		chance.Read(b)
		for range 20 {
			some := b[:chance.Intn(len(b)+1)]
			for m := Mode(-1); m <= 3; m++ {
				if got, want := d.Part(some, m), r.part(some, m); !bytes.Equal(got, want) {
					t.Fatalf("%s: Part(%q, %d) %q, not %q", run, some, m, got, want)
				}
			}
		}
	}
}

// P14.1 and P14.2: a million bytes in one segment, and as many that change from byte to byte.
func TestMany(t *testing.T) {
	const many = 1 << 20
	d := Of(Transfer)
	b := make([]byte, many)
	for i := range b {
		b[i] = byte(i ^ i>>8)
		d.Put(b[i])
	}
	if s := d.Segments(); d.Len() != many || !slices.Equal(s, []Segment{{Transfer, 0, many}}) || !bytes.Equal(d.Part(b, Transfer), b) || len(d.Part(b[:many-1], Transfer)) != 0 {
		t.Error(d.Len(), len(s))
	}
	d = Of(Purge)
	for i, c := range b {
		d.Switch(Mode(i % 3))
		d.Put(c)
	}
	s := d.Segments()
	if d.Len() != many || len(s) != many || s[many-1] != (Segment{Purge, many - 1, 1}) {
		t.Fatal(d.Len(), len(s))
	}
	text := d.Part(b[:many-1], Text)
	if len(text) != many/3 || text[1000] != b[3001] || len(d.Part(b, Purge)) != many/3+1 {
		t.Error(len(text))
	}
}

// P14.1 and P14.2: asking changes nothing, at any point of a run.
func TestAskingChangesNothing(t *testing.T) {
	d, r := Of(Text), &reading{mode: Text}
	for _, c := range []byte("..x.pt..x.x.p..?.t.") {
		step(t, "asked", d, r, c)
		for range 3 {
			agree(t, "asked", d, r)
			agreeParts(t, "asked", d, r)
		}
	}
}

// W2: two Demuxes have nothing in common.
func TestDemuxesAreApart(t *testing.T) {
	d, e := Of(Text), Of(Text)
	do(d, "..x.")
	fresh(t, e, Text)
	do(e, ".p.")
	if tell(d.Segments()) != "t0+2 x2+1" || tell(e.Segments()) != "t0+1 p1+1" || d.Mode() != Transfer || e.Mode() != Purge {
		t.Error(d.Segments(), e.Segments(), d.Mode(), e.Mode())
	}
}

// spoil overwrites all that a slice has room for.
func spoil[T any](s []T, with T) {
	s = s[:cap(s)]
	for i := range s {
		s[i] = with
	}
}

// W6: Segments are new each time: altering them alters nothing else, and what is assigned later does not alter them.
func TestSegmentsAreNew(t *testing.T) {
	d := Of(Text)
	for _, steps := range []string{".", ".", "x.", ".", "p.t..", ".x"} {
		do(d, steps)
		want := tell(d.Segments())
		spoil(d.Segments(), Segment{Transfer, -7, 99})
		_ = append(d.Segments(), Segment{Transfer, -7, 99})
		if got := tell(d.Segments()); got != want {
			t.Fatalf("%q, not %q", got, want)
		}
		kept, other := d.Segments(), d.Segments()
		do(d, "..p.t")
		if tell(kept) != want {
			t.Fatalf("a later Put altered %q to %q", want, tell(kept))
		}
		spoil(other, Segment{})
		if tell(kept) != want {
			t.Fatal("two answers share memory")
		}
	}
	if n := d.Len(); n != 26 {
		t.Error(n)
	}
}

// W6: Part neither modifies nor keeps its bytes, and its answer is new, also if it is all of them.
func TestPartIsNew(t *testing.T) {
	for _, run := range []string{"t....", "x....", "p....", "t..x..", "t.x..t.", "x.t...", "p.t.x.p."} {
		d := made(run)
		b := append(make([]byte, 0, 20), "abcd"...)
		room := b[:20]
		for m := range Mode(3) {
			before := slices.Clone(room)
			part, again := d.Part(b, m), d.Part(b, m)
			want := string(part)
			spoil(part, '?')
			if !bytes.Equal(room, before) || string(again) != want {
				t.Errorf("%s, %d: an answer shares memory", run, m)
			}
			spoil(b, '!')
			if string(again) != want {
				t.Errorf("%s, %d: the argument was kept", run, m)
			}
			if got := d.Part(before[:4], m); string(got) != want {
				t.Errorf("%s, %d: %q, not %q", run, m, got, want)
			}
			copy(room, before)
		}
	}
}

// W1: a Demux that Of did not make has the first mode, and does not panic.
func TestZeroDemux(t *testing.T) {
	var d Demux
	fresh(t, &d, Purge)
	if got := do(&d, ".t.."); got != "ptt" || tell(d.Segments()) != "p0+1 t1+2" || d.Len() != 3 {
		t.Error(got, d.Segments(), d.Len())
	}
}
