package link

import (
	"bytes"
	"math"
	"math/big"
	"math/rand"
	"slices"
	"strconv"
	"strings"
	"testing"

	"lifeline/api"
	"lifeline/block"
	"lifeline/receiver"
	"lifeline/sender"
)

// The signature and the types of the chapter, to the letter.
var (
	_ func(*sender.Sender, *receiver.Receiver, []Noise, int) Result = Run

	_ = Noise{Lost: true, At: int(0), By: byte(0)}
	_ = Result{Over: true, Sender: error(nil), Receiver: error(nil), Data: []byte(nil), Ticks: int(0), Sent: int(0)}
)

// pair is what a Sender and a Receiver are made of.
type pair struct {
	tries, wait int    // of the Sender
	asks, idle  int    // the same of the Receiver
	blocks      string // s for one of 128 bytes, l for one of 1024, 0 for one without data; the first one has the number 1
	ways        string // c: the Sender may use CRCs, C: the Receiver wants them; e: the Sender closes, E: the Receiver does
	number      byte   // that the Receiver expects first
	many        int
}

// Some pairs.
var (
	two    = pair{2, 9, 9, 9, "ss", "cCeE", 1, 1}
	single = pair{1, 9, 9, 9, "ss", "cCeE", 1, 1} // with a single try
	hasty  = pair{2, 3, 2, 2, "ss", "cCeE", 1, 1} // both soon do without an answer
	asking = pair{2, 9, 2, 1, "ss", "cCeE", 1, 1} // the Receiver asks in every tick
	prompt = pair{3, 1, 9, 9, "ss", "cCeE", 1, 1} // the Sender repeats in every tick
	stolid = pair{4, 9, 9, 5, "ss", "cCeE", 1, 1} // it bears any three losses in a row
)

// with is a pair with other blocks.
func (p pair) with(blocks string) pair {
	p.blocks = blocks
	return p
}

// by is a pair in other ways.
func (p pair) by(ways string, many int) pair {
	p.ways, p.many = ways, many
	return p
}

// from is a pair with another first number.
func (p pair) from(number byte) pair {
	p.number = number
	return p
}

// dataOf is so many bytes that differ from seed to seed.
func dataOf(size, seed int) []byte {
	data := make([]byte, size)
	for i := range data {
		data[i] = byte(i*7 + i/256*3 + seed*31 + 4)
	}
	return data
}

// list is the blocks of a pair.
func (p pair) list() []api.Block {
	sizes := map[rune]int{'s': 128, 'l': 1024, '0': 0}
	var parts [][]byte
	for i, c := range p.blocks {
		parts = append(parts, dataOf(sizes[c], i))
	}
	return block.Number(parts)
}

// data is that of the first so many blocks.
func (p pair) data(blocks int) []byte {
	var all []byte
	for _, b := range p.list()[:blocks] {
		all = append(all, b.Data...)
	}
	return all
}

// made is a new Sender and a new Receiver.
func (p pair) made() (*sender.Sender, *receiver.Receiver) {
	has := func(way string) bool { return strings.Contains(p.ways, way) }
	s := sender.Of(sender.Config{Tries: p.tries, Wait: p.wait}, p.list(), has("c"), has("e"))
	r := receiver.Of(sender.Config{Tries: p.asks, Wait: p.idle}, p.number, has("C"), has("E"), p.many)
	return s, r
}

// talk is the Result of a new pair.
func (p pair) talk(noise []Noise, most int) Result {
	s, r := p.made()
	return Run(s, r, noise, most)
}

// noises is the noise that letters stand for: . for none, L for all lost, x for byte 5 turned, y and z for one that is byte 5 of a second and of a third short block, n for a number turned, e for Soh turned to Eot (and back), l for Soh turned to Stx.
func noises(letters string) []Noise {
	var list []Noise
	for _, c := range letters {
		list = append(list, map[rune]Noise{
			'.': {},
			'L': {Lost: true, At: 1, By: 1},
			'x': {At: 5, By: 1},
			'y': {At: 133 + 5, By: 1},
			'z': {At: 2*133 + 5, By: 1},
			'n': {At: 1, By: 64},
			'e': {At: 0, By: 5},
			'l': {At: 0, By: 3},
		}[c])
	}
	return list
}

// same compares two Results.
func same(t *testing.T, name string, got, want Result) {
	t.Helper()
	if got.Over != want.Over || got.Ticks != want.Ticks || got.Sent != want.Sent {
		t.Fatalf("%s: over %v, %d ticks, %d sent, want %v, %d, %d", name, got.Over, got.Ticks, got.Sent, want.Over, want.Ticks, want.Sent)
	}
	if got.Sender != want.Sender || got.Receiver != want.Receiver {
		t.Fatalf("%s: errors %v and %v, want %v and %v", name, got.Sender, got.Receiver, want.Sender, want.Receiver)
	}
	if !bytes.Equal(got.Data, want.Data) {
		t.Fatalf("%s: %d bytes of data, want %d, or others", name, len(got.Data), len(want.Data))
	}
}

// end is the tick in which a Sender or a Receiver becomes over, and its error; tick 0 if it never does.
type end struct {
	tick int
	err  error
}

// never is the end of what is not over.
var never = end{}

// ahead is the error that there is at the beginning of a tick.
func (e end) ahead(tick int) error {
	if e.tick > 0 && e.tick < tick {
		return e.err
	}
	return nil
}

// run is a talk, tick by tick: whether something is sent (+) or not (-), how many blocks there are behind the tick, and the two ends.
type run struct {
	pair     pair
	noise    string
	sent     string
	data     string
	sender   end
	receiver end
}

// ends tells whether both become over.
func (r run) ends() bool { return r.sender.tick > 0 && r.receiver.tick > 0 }

// within is the Result if there are most ticks.
func (r run) within(most int) Result {
	total := len(r.sent)
	examined := min(most, total+1)
	want := Result{
		Over:     most > total,
		Sender:   r.sender.ahead(examined),
		Receiver: r.receiver.ahead(examined),
		Ticks:    max(0, min(most, total)),
	}
	if want.Ticks > 0 {
		want.Sent = strings.Count(r.sent[:want.Ticks], "+")
		want.Data = r.pair.data(int(r.data[want.Ticks-1] - '0'))
	}
	return want
}

// check has the talk happen, with every number of ticks at most.
func (r run) check(t *testing.T) {
	t.Helper()
	name := r.pair.blocks + " " + r.pair.ways + ", noise " + r.noise + ", " + r.sent
	total := len(r.sent)
	if len(r.data) != total || r.ends() && max(r.sender.tick, r.receiver.tick) != total {
		t.Fatal(name, "is not written down well")
	}
	mosts := []int{math.MinInt, -1 << 40}
	for most := -2; most <= total; most++ {
		mosts = append(mosts, most)
	}
	if r.ends() {
		mosts = append(mosts, total+1, total+2, total+9, 1<<40, math.MaxInt)
	}
	for _, most := range mosts {
		same(t, name+", at most "+strconv.Itoa(most), r.pair.talk(noises(r.noise), most), r.within(most))
	}
}

// runs has talks happen.
func runs(t *testing.T, list []run) {
	t.Helper()
	for _, r := range list {
		r.check(t)
	}
}

// The chapter's example: without blocks it is over behind four ticks at most.
func TestExample(t *testing.T) {
	for tries := range 11 {
		for wait := range 11 {
			for idle := range 11 {
				p := pair{tries, wait, tries, idle, "", "cCeE", 1, 1}
				if got := p.talk(nil, 100); !got.Over || got.Ticks > 4 || len(got.Data) > 0 {
					t.Fatal(tries, wait, idle, got)
				}
			}
		}
	}
}

// P12.1, P12.2: without noise: a tick for each block, one for Eot, and one for the answer to it. Noise behind what is sent does nothing.
func TestQuiet(t *testing.T) {
	runs(t, []run{
		{two.with(""), "", "+-", "00", end{2, nil}, end{1, nil}},
		{two.with("s"), "", "++-", "111", end{3, nil}, end{2, nil}},
		{two, "", "+++-", "1222", end{4, nil}, end{3, nil}},
		{two, "...", "+++-", "1222", end{4, nil}, end{3, nil}},
		{two, "...LLLxxx", "+++-", "1222", end{4, nil}, end{3, nil}},
		{single, "", "+++-", "1222", end{4, nil}, end{3, nil}},
		{hasty, "", "+++-", "1222", end{4, nil}, end{3, nil}},
		{two.with("lsl"), "", "++++-", "12333", end{5, nil}, end{4, nil}},
		{two.with("slslslsl"), "", "+++++++++-", "1234567888", end{10, nil}, end{9, nil}},
		{two.by("eE", 1), "", "+++-", "1222", end{4, nil}, end{3, nil}},
		{two.by("ceE", 1), "", "+++-", "1222", end{4, nil}, end{3, nil}},
		{two.by("cC", 2), "", "++-", "122", end{3, nil}, end{2, nil}},
		{two.by("", 2).with("ls"), "", "++-", "122", end{3, nil}, end{2, nil}},
	})
}

// P12.1: a byte is turned: the block is asked for in the next tick. Too often, and both are over in one tick.
func TestTurned(t *testing.T) {
	runs(t, []run{
		{two, "x", "++++-", "01222", end{5, nil}, end{4, nil}},
		{two, "n", "++++-", "01222", end{5, nil}, end{4, nil}},
		{two, "y", "++++-", "01222", end{5, nil}, end{4, nil}},
		{two, ".x", "++++-", "11222", end{5, nil}, end{4, nil}},
		{two, "..x", "++++-", "12222", end{5, nil}, end{4, nil}},
		{two, "x.x.x.", "++++++-", "0112222", end{7, nil}, end{6, nil}},
		{two, "xx", "+++", "000", end{3, api.ErrTries}, end{3, api.ErrCancel}},
		{two, ".nn", "++++", "1111", end{4, api.ErrTries}, end{4, api.ErrCancel}},
		{two, "..xx", "+++++", "12222", end{5, api.ErrTries}, end{5, api.ErrCancel}},
		{single, "x", "++", "00", end{2, api.ErrTries}, end{2, api.ErrCancel}},
		{hasty, "xxx", "+++----", "0000000", end{3, api.ErrTries}, end{7, api.ErrTries}}, // the second Can too
		{hasty, "e", "++--+--+", "00000000", end{8, api.ErrTries}, end{1, nil}},          // taken for the end
		{hasty, "l", "+--+++-", "0001222", end{7, nil}, end{6, nil}},                     // more bytes are waited for
	})
}

// P12.1: all is lost: nothing arrives, and the answer that was given last does not go up once more. A tick in which nothing is sent uses up no noise.
func TestLost(t *testing.T) {
	runs(t, []run{
		{hasty, "L", "+--+++-", "0001222", end{7, nil}, end{6, nil}},
		{hasty, ".L", "++++-", "11222", end{5, nil}, end{4, nil}},
		{hasty, "..L", "++++-", "12222", end{5, nil}, end{4, nil}},
		{hasty, "L.x", "+--++++-", "00011222", end{8, nil}, end{7, nil}},
		{hasty, "LL", "+--+-", "00000", end{5, api.ErrCancel}, end{5, api.ErrTries}},
		{hasty, ".LL", "+++-+", "11111", end{5, api.ErrTries}, end{5, api.ErrCancel}},
		{hasty, ".LLL", "+++-+--------------------", strings.Repeat("1", 25), end{5, api.ErrTries}, never},
		{two, ".L", "++-------++-", "111111111222", end{12, nil}, end{11, nil}},
	})
}

// P12.1: bytes that travel in one tick: the answer ahead of what the Receiver's tick brings, what the Sender's tick brings ahead of what it puts, all of it in one go, with one piece of noise.
func TestOneGo(t *testing.T) {
	once := asking
	once.tries = 1
	runs(t, []run{
		{asking, "", "+++-", "1222", end{4, nil}, end{3, nil}},
		{once, "", "++--------", "1222222222", end{2, api.ErrTries}, never},
		{prompt, "", "++++", "1122", end{4, nil}, end{4, nil}},
		{asking, "x", "++++-", "01222", end{5, nil}, end{4, nil}},
		{asking, "y", "++++-", "01222", end{5, nil}, end{4, nil}},
		{asking, ".x", "+++", "111", end{3, api.ErrTries}, end{3, api.ErrCancel}},
		{asking, ".y", "+++-", "1222", end{4, nil}, end{3, nil}},
		{asking, ".z", "+++", "111", end{3, api.ErrTries}, end{3, api.ErrCancel}},
		{asking, "..x", "+++-", "1222", end{4, nil}, end{3, nil}},
		{asking, "..e", "++++", "1222", end{4, api.ErrTries}, end{4, api.ErrCancel}},
	})
}

// P12.1, P12.2: of a Sender and a Receiver that do not fit each other, or one of which is over from the start, the one may be over long ahead of the other, or the other never.
func TestUnlike(t *testing.T) {
	rash := pair{1, 1, 2, 2, "ss", "cCeE", 1, 1}
	runs(t, []run{
		{hasty.by("cCe", 1).with("s"), "", "++--+--+", "11111111", end{8, api.ErrTries}, end{1, nil}},
		{hasty.by("cC", 1), "", "++--+--+", "11111111", end{8, api.ErrTries}, end{1, nil}},
		{hasty.by("cCE", 1).with("s"), "", "+---------", "1111111111", end{2, nil}, never},
		{hasty.by("cCE", 1).with(""), "", "-----", "00000", end{1, nil}, end{5, api.ErrTries}},
		{hasty.by("cCe", 1).with(""), "", "+++", "000", end{3, api.ErrTries}, end{3, api.ErrCancel}},
		{hasty.by("cC", 3), "", "++--------", "1222222222", end{3, nil}, never},
		{hasty.by("CeE", 1), "", "-----", "00000", end{5, api.ErrCancel}, end{5, api.ErrTries}},
		{hasty.with("0"), "", "-----", "00000", end{1, api.ErrArgument}, end{5, api.ErrTries}},
		{hasty.with("s0s"), "", "+---------", "1111111111", end{2, api.ErrArgument}, never},
		{two.from(5), "", "+-", "00", end{2, api.ErrCancel}, end{1, api.ErrArgument}},
		{two.from(2), "", "+-", "00", end{2, api.ErrCancel}, end{1, api.ErrArgument}},
		{two.from(5), "x", "++-", "000", end{3, api.ErrCancel}, end{2, api.ErrArgument}},
		{rash, "", "+", "0", end{1, api.ErrTries}, end{1, api.ErrCancel}},
		{rash, "L", "+----", "00000", end{1, api.ErrTries}, end{5, api.ErrTries}},
	})
}

// P12.2: of two that are over no tick is simulated; whether they are is not looked at without a tick that could be.
func TestOverAlready(t *testing.T) {
	for _, c := range []struct {
		noise string
		s, r  error
		data  int
	}{{"", nil, nil, 2}, {"xx", api.ErrTries, api.ErrCancel, 0}, {".nn", api.ErrTries, api.ErrCancel, 1}} {
		s, r := two.made()
		Run(s, r, noises(c.noise), 100)
		for _, most := range []int{-1, 0, 1, 2, math.MaxInt, 0, math.MinInt, 1} {
			want := Result{Data: two.data(c.data)}
			if most > 0 {
				want.Over, want.Sender, want.Receiver = true, c.s, c.r
			}
			same(t, "over already", Run(s, r, noises("LLxx"), most), want)
		}
	}
}

// P12.1: one of the two is over already: the other goes on alone.
func TestOneOver(t *testing.T) {
	s, r := hasty.made()
	s.Put(24)
	s.Put(24)
	same(t, "the Sender", Run(s, r, nil, 99), Result{Over: true, Sender: api.ErrCancel, Receiver: api.ErrTries, Ticks: 5})
	s, r = hasty.made()
	r.Put(24, 24)
	same(t, "the Receiver", Run(s, r, nil, 99), Result{Over: true, Sender: api.ErrTries, Receiver: api.ErrCancel, Ticks: 6, Sent: 1})
	s, r = hasty.made()
	r.Put(4)
	s.Put('C')
	same(t, "the Receiver, behind the first block", Run(s, r, nil, 99), Result{Over: true, Sender: api.ErrTries, Ticks: 6, Sent: 2})
}

// arrived tells whether these bytes arrive of a block of so many bytes that is sent again in the only tick: the Receiver takes them for data, as the three bytes ahead of a greater block came already.
func arrived(t *testing.T, name string, size int, noise Noise, want []byte) {
	t.Helper()
	s := sender.Of(sender.Config{Tries: 3, Wait: 1}, block.Number([][]byte{dataOf(size, 1)}), true, true)
	s.Put(21)
	r := receiver.Of(sender.Config{Tries: 3, Wait: 99}, 7, true, true, 1)
	r.Put(2, 7, 248)
	same(t, name, Run(s, r, []Noise{noise}, 1), Result{Ticks: 1, Sent: 1})
	data := append(bytes.Clone(want), make([]byte, 1024-len(want))...)
	whole, _ := block.Make(api.Block{Number: 7, Data: data}, true)
	if got := r.Put(whole[3+len(want):]...); !bytes.Equal(got, []byte{6}) || !bytes.Equal(r.Data(), data) {
		t.Fatalf("%s: other bytes arrived", name)
	}
}

// P12.1: the byte whose index is At modulo the number of bytes is turned, and no other one, for every index, from far below 0 to far above the last one.
func TestAt(t *testing.T) {
	sent, _ := block.Make(block.Number([][]byte{dataOf(128, 1)})[0], false)
	size := len(sent)
	for i := range sent {
		by := byte(1 + i*83%255)
		want := bytes.Clone(sent)
		want[i] ^= by
		for _, round := range []int{-1 << 50, -1000, -2, -1, 0, 1, 2, 1000, 1 << 50} {
			at := i + round*size
			arrived(t, "at "+strconv.Itoa(at), 128, Noise{At: at, By: by}, want)
		}
	}
	for _, at := range []int{math.MinInt, math.MinInt + 1, math.MaxInt - 1, math.MaxInt} {
		want := bytes.Clone(sent)
		want[modulo(at, size)] ^= 255
		arrived(t, "at "+strconv.Itoa(at), 128, Noise{At: at, By: 255}, want)
	}
}

// P12.1: a byte is combined with By by exclusive or, whatever By is; 0 turns nothing.
func TestBy(t *testing.T) {
	sent, _ := block.Make(block.Number([][]byte{dataOf(128, 1)})[0], false)
	for by := range 256 {
		want := bytes.Clone(sent)
		want[77] = byte(int(sent[77])&^by | by&^int(sent[77]))
		arrived(t, "by "+strconv.Itoa(by), 128, Noise{At: 77, By: byte(by)}, want)
	}
	for at := range 300 {
		arrived(t, "by nothing", 128, Noise{At: at - 150}, sent)
	}
}

// P12.1: of what is lost no byte arrives, whatever else the noise says.
func TestLostWhole(t *testing.T) {
	for _, at := range []int{math.MinInt, -1, 0, 1, 5, math.MaxInt} {
		for _, by := range []byte{0, 1, 255} {
			arrived(t, "lost", 128, Noise{true, at, by}, nil)
		}
	}
}

// modulo is an index modulo a number, from 0 on.
func modulo(at, size int) int {
	return int(new(big.Int).Mod(big.NewInt(int64(at)), big.NewInt(int64(size))).Int64())
}

// line is the chapter read another way: what travels lies in two queues, and every tick leaves a note of what it began with.
type line struct {
	s     *sender.Sender
	r     *receiver.Receiver
	noise []Noise
	up    []byte
	down  []byte
	sent  int
	notes []Result
}

// begin notes how both are.
func (l *line) begin() {
	so, se := l.s.Done()
	ro, re := l.r.Done()
	l.notes = append(l.notes, Result{Over: so && ro, Sender: se, Receiver: re})
}

// spoil has noise happen to what lies in the queue down.
func (l *line) spoil() {
	if len(l.down) == 0 {
		return
	}
	l.sent++
	if len(l.noise) == 0 {
		return
	}
	n := l.noise[0]
	l.noise = l.noise[1:]
	if n.Lost {
		l.down = nil
		return
	}
	i := modulo(n.At, len(l.down))
	l.down = slices.Concat(l.down[:i], []byte{l.down[i] ^ n.By}, l.down[i+1:])
}

// tick has a tick go by.
func (l *line) tick() {
	l.up = slices.Concat(l.up, l.r.Tick())
	l.down = slices.Concat(l.down, l.s.Tick())
	for len(l.up) > 0 {
		l.down = slices.Concat(l.down, l.s.Put(l.up[0]))
		l.up = l.up[1:]
	}
	l.spoil()
	if len(l.down) > 0 {
		l.up = l.r.Put(l.down...)
	}
	l.down = nil
}

// result is that of a line whose ticks are all noted.
func result(p pair, noise []Noise, most int) Result {
	s, r := p.made()
	l := &line{s: s, r: r, noise: noise}
	ticks := 0
	for k := 1; k <= most; k++ {
		l.begin()
		if l.notes[k-1].Over {
			break
		}
		l.tick()
		ticks++
	}
	var last Result
	if len(l.notes) > 0 {
		last = l.notes[len(l.notes)-1]
	}
	last.Data, last.Ticks, last.Sent = r.Data(), ticks, l.sent
	return last
}

// words are all words of the letters of a given length.
func words(letters string, length int) []string {
	list := []string{""}
	for range length {
		var longer []string
		for _, w := range list {
			for _, c := range letters {
				longer = append(longer, w+string(c))
			}
		}
		list = longer
	}
	return list
}

// P12.1, P12.2: four pieces of noise, in all ways, for small pairs, against the line.
func TestAllSmall(t *testing.T) {
	all := words(".Lxyel", 4)
	pairs := []pair{two, single, hasty, asking, prompt, stolid, hasty.with("l"), asking.with("sss"), prompt.with("ls"), hasty.from(2)}
	for _, p := range slices.Clone(pairs[:5]) {
		pairs = append(pairs, p.by("eE", 1), p.by("cC", 2), p.by("cCe", 1), p.by("ceE", 1))
	}
	for _, p := range pairs {
		for k, w := range all {
			most := 30
			if k%3 == 0 {
				most = k / 3 % 20
			}
			same(t, p.blocks+" "+p.ways+" "+w, p.talk(noises(w), most), result(p, noises(w), most))
		}
	}
}

// chance is a pair, and noise, by chance.
func chance(r *rand.Rand) (pair, []Noise) {
	var blocks, ways string
	for range r.Intn(7) {
		blocks += []string{"s", "s", "s", "l"}[r.Intn(4)]
	}
	if r.Intn(20) == 0 {
		blocks += "0"
	}
	for _, way := range []string{"c", "C", "e", "E"} {
		if r.Intn(5) > 0 {
			ways += way
		}
	}
	p := pair{r.Intn(12) - 1, r.Intn(8) - 1, r.Intn(12) - 1, r.Intn(8) - 1, blocks, ways, 1, r.Intn(8)}
	if r.Intn(20) == 0 {
		p.number = byte(r.Intn(4))
	}
	noise := make([]Noise, r.Intn(20))
	for i := range noise {
		switch r.Intn(6) {
		case 0:
			noise[i] = Noise{Lost: true, At: r.Intn(9), By: byte(r.Intn(256))}
		case 1:
			noise[i] = Noise{At: int(r.Uint64()), By: byte(r.Intn(256))}
		case 2:
			noise[i] = Noise{At: r.Intn(9) - 4, By: byte(r.Intn(32))}
		}
	}
	return p, noise
}

// P12.1, P12.2: pairs and noise by chance, against the line.
func TestChance(t *testing.T) {
	r := rand.New(rand.NewSource(12))
	for range 20000 {
		p, noise := chance(r)
		most := []int{r.Intn(12) - 1, r.Intn(60), 300}[r.Intn(3)]
		same(t, "by chance", p.talk(noise, most), result(p, noise, most))
	}
}

// P12.1, P12.2: all is brought if nothing is altered or lost as often as it is tried.
func TestBrought(t *testing.T) {
	r := rand.New(rand.NewSource(4))
	for range 3000 {
		p := stolid.with(strings.Repeat("sls", r.Intn(3)))
		letters := ""
		for range r.Intn(20) {
			for range r.Intn(4) {
				letters += "Lxyzn"[r.Intn(5):][:1]
			}
			letters += "."
		}
		got := p.talk(noises(letters), 1000)
		if !got.Over || got.Sender != nil || got.Receiver != nil || !bytes.Equal(got.Data, p.data(len(p.blocks))) {
			t.Fatal(p.blocks, letters, got.Over, got.Sender, got.Receiver, len(got.Data))
		}
	}
}

// P12.1, P12.2: a great many blocks, and noise in every third tick.
func TestLong(t *testing.T) {
	p := two.with(strings.Repeat("s", 3000))
	got := p.talk(noises(strings.Repeat("..x", 1500)), math.MaxInt)
	same(t, "3000 blocks", got, Result{Over: true, Data: p.data(3000), Ticks: 4502, Sent: 4501})
}

// W1: any numbers, no noise, no blocks, a Receiver that is never over; of what Of did not make nothing is promised but that no call panics.
func TestAny(t *testing.T) {
	edges := []int{math.MinInt, -1, 0, 1, 2, 100, math.MaxInt}
	for _, most := range edges {
		for _, at := range edges {
			noise := []Noise{{At: at, By: 1}, {At: at, By: 24}, {Lost: true, At: at}, {At: at, By: 255}}
			for _, list := range [][]Noise{nil, {}, noise} {
				two.by("eE", most).with("").talk(list, most)
				pair{at, most, most, at, "sl", "cC", 1, at}.talk(list, min(most, 3000))
				Run(new(sender.Sender), new(receiver.Receiver), list, most)
			}
		}
	}
	want := Result{Sender: api.ErrTries, Data: hasty.data(1), Ticks: 1 << 20, Sent: 4}
	same(t, "never over", hasty.talk(noises(".LLL"), 1<<20), want)
}

// W6: the noise is not modified, and nothing is written behind it; a later talk of the same two knows nothing of it.
func TestNoiseKept(t *testing.T) {
	room := noises("x.LyxL")
	want := slices.Clone(room)
	s, r := hasty.made()
	Run(s, r, room[:3], 1)
	if !slices.Equal(room, want) {
		t.Fatal("the noise was modified")
	}
	Run(s, r, noises("."), 1)
	same(t, "without noise", Run(s, r, nil, 99), Result{Over: true, Data: hasty.data(2), Ticks: 5, Sent: 3})
}

// W6: Data is new: who gets it may write to it, and behind it.
func TestDataApart(t *testing.T) {
	s, r := two.made()
	first := Run(s, r, nil, 2)
	second := Run(s, r, nil, 0)
	for _, got := range []Result{first, second} {
		same(t, "Data", Result{Data: got.Data}, Result{Data: two.data(2)})
		clear(got.Data[:cap(got.Data)])
	}
	same(t, "Data spoiled", Result{Data: r.Data()}, Result{Data: two.data(2)})
	same(t, "Data anew", Result{Data: Run(s, r, nil, 99).Data}, Result{Data: two.data(2)})
}

// W2: a talk knows nothing of those ahead of it.
func TestAgain(t *testing.T) {
	r := rand.New(rand.NewSource(2))
	for range 300 {
		p, noise := chance(r)
		first := p.talk(noise, 100)
		stolid.talk(noises("LxL"), 7)
		same(t, "once more", p.talk(noise, 100), first)
	}
}
