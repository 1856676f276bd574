package host

import (
	"bytes"
	"fmt"
	"math"
	"math/rand"
	"reflect"
	"slices"
	"strconv"
	"strings"
	"sync"
	"testing"

	"lifeline/api"
	"lifeline/batch"
	"lifeline/block"
	"lifeline/demux"
	"lifeline/dialog"
	"lifeline/manifest"
	"lifeline/meter"
	"lifeline/play"
	"lifeline/sender"
	"lifeline/sum"
	"lifeline/target"
)

// Bytes of transfers, and the prompt, spelled out.
const (
	eot    = "\x04"
	ack    = "\x06"
	nak    = "\x15"
	can    = "\x18"
	stop   = "\x18\x18"
	prompt = "=> "
)

// tick is not put, but has a tick go by.
const tick = "<tick>"

// The signatures of the chapter, to the letter.
var (
	_ Config = Config{Sender: sender.Config{}, Tries: int(0), Room: int(0), Wake: []dialog.Step{}}

	_ func() []dialog.Step                      = Wake
	_ func(Config, []api.Entry, [][]byte) *Host = Of
	_ func(*Host, ...byte)                      = (*Host).Put
	_ func(*Host)                               = (*Host).Tick
	_ func(*Host) []byte                        = (*Host).Out
	_ func(*Host) (bool, error)                 = (*Host).Done
	_ func(*Host) Phase                         = (*Host).Phase
	_ func(*Host) int                           = (*Host).Brought
	_ func(*Host) meter.Meter                   = (*Host).Meter
	_ func(*Host) ([]byte, []demux.Segment)     = (*Host).Heard
	_ [8]Phase                                  = [8]Phase{0, 1, 2, 3, 4, 5, 6, 7}
	_                                           = [...]struct{}{Waking: {}, Sending: {}, Settling: {}, Asking: {}, Closing: {}, Purging: {}, Calling: {}, Over: {}}
)

// usual is a configuration of which no part is at a limit.
var usual = Config{Sender: sender.Config{Tries: 3, Wait: 4}, Tries: 3, Room: 300}

// small is one by which much is over soon.
var small = Config{Sender: sender.Config{Tries: 1, Wait: 1}, Tries: 2, Room: 300}

// edges are ints about the limits of tries, ticks and room, and the least and the greatest.
var edges = []int{math.MinInt, -100, -1, 0, 1, 2, 8, 9, 10, 98, 99, 100, 4095, 4096, 4097, 1 << 40, math.MaxInt}

// within is a number limited to a range.
func within(n, least, most int) int {
	switch {
	case n < least:
		return least
	case n > most:
		return most
	}
	return n
}

// printed is the fingerprint of bytes in its closed form.
func printed(b string) uint32 {
	var s, t uint64
	for i := range len(b) {
		s += uint64(b[i])
		t += uint64(b[i])*uint64(len(b)-i) + 1
	}
	return uint32(t%65521)*65536 + uint32(s%65521)
}

// checked is the sum of bytes, crc their CRC.
func checked(data string) string {
	var s byte
	for i := range len(data) {
		s += data[i]
	}
	return string([]byte{s})
}

func crc(data string) string {
	var r uint16
	for i := range len(data) {
		r ^= uint16(data[i]) << 8
		for range 8 {
			out := r >> 15
			r <<= 1
			if out == 1 {
				r ^= 0x1021
			}
		}
	}
	return string([]byte{byte(r >> 8), byte(r)})
}

// filled is a text with a byte behind it up to so many.
func filled(text string, with string, n int) string { return text + strings.Repeat(with, n-len(text)) }

// encoded is a block of 128 or of 1024 bytes.
func encoded(number byte, data string, trailer func(string) string) string {
	lead := map[int]byte{128: 1, 1024: 2}[len(data)]
	return string([]byte{lead, number, ^number}) + data + trailer(data)
}

// short is that of a text in a block of 128 bytes with a CRC, sure that with a checksum.
func short(number byte, text string) string {
	return encoded(number, filled(text, "\x1a", 128), crc)
}

func sure(number byte, text string) string {
	return encoded(number, filled(text, "\x1a", 128), checked)
}

// head is the description of a file, last the empty one.
func head(name string, n int) string {
	return encoded(0, filled(name+"\x00"+strconv.Itoa(n)+" 0 0", "\x00", 128), crc)
}

func last() string { return encoded(0, filled("", "\x00", 128), crc) }

// many is n bytes of which neighbours differ, and so do those that are 128 or 256 apart.
func many(n int) string {
	b := make([]byte, n)
	for i := range b {
		b[i] = byte(i*7 + i/128*5 + 33)
	}
	return string(b)
}

// cargo is a manifest, and its images.
type cargo struct {
	es     []api.Entry
	images [][]byte
}

// and is a cargo with one image more.
func (c cargo) and(name string, addr int, image string, way api.Way) cargo {
	e := api.Entry{Name: name, Addr: addr, Size: len(image), Print: printed(image), Way: way}
	return cargo{append(slices.Clone(c.es), e), append(slices.Clone(c.images), []byte(image))}
}

// hello is one image by a way. Its print was worked out by hand: 532 is 0x214, 1580 is 0x62c.
func hello(way api.Way) cargo { return cargo{}.and("a", 0x100, "hello", way) }

const (
	ask   = "sum 100 5\r"
	right = "sum 100 5 62c0214\r\n"
	load  = "load crc 100\r"
)

// two are two images.
func two() cargo { return hello(api.Crc).and("b", 0x200, "xyz", api.Check) }

// host is a Host of a cargo.
func host(c Config, g cargo) *Host { return Of(c, g.es, g.images) }

// happen puts a text, or has a tick go by.
func happen(h *Host, e string) {
	if e == tick {
		h.Tick()
		return
	}
	h.Put([]byte(e)...)
}

// step is what is put, how many ticks go by behind it, what goes out by then, and which phase that is.
type step struct {
	put   string
	ticks int
	out   string
	phase Phase
}

// state is what can be asked of a Host at any time.
type state struct {
	phase   Phase
	over    bool
	err     error
	brought int
	failed  int
}

// stateOf is that of a Host.
func stateOf(h *Host) state {
	over, err := h.Done()
	if m := h.Meter(); real(complex128(m)) != float64(h.Brought()) {
		panic("Brought and Meter differ")
	}
	return state{h.Phase(), over, err, h.Brought(), int(imag(complex128(h.Meter())))}
}

// story is what happens to a Host, and how it is then.
type story struct {
	name  string
	c     Config
	g     cargo
	first string // what goes out at first
	steps []step
	end   state
}

// happens has stories happen, and holds the reading against them as well.
func happens(t *testing.T, list []story) {
	t.Helper()
	for _, s := range list {
		h := host(s.c, s.g)
		if got := string(h.Out()); got != s.first {
			t.Fatalf("%s: at first %.60q, want %.60q", s.name, got, s.first)
		}
		var events []string
		for i, e := range s.steps {
			h.Put([]byte(e.put)...)
			events = append(events, e.put)
			for range e.ticks {
				h.Tick()
				events = append(events, tick)
			}
			if got := string(h.Out()); got != e.out || h.Phase() != e.phase {
				t.Fatalf("%s: step %d, %.40q: %.60q in phase %d, want %.60q in phase %d", s.name, i, e.put, got, h.Phase(), e.out, e.phase)
			}
		}
		if got := stateOf(h); got != s.end {
			t.Fatalf("%s: %v, want %v", s.name, got, s.end)
		}
		follow(t, s.c, s.g, events)
	}
}

// until is the steps up to a phase, all well, of one image by CRC.
func until(p Phase) []step {
	all := []step{
		{prompt, 1, load, Sending},
		{"C", 1, short(1, "hello"), Sending},
		{ack, 1, eot, Sending},
		{ack, 1, "", Settling},
		{prompt, 1, ask, Asking},
		{right, 1, "", Closing},
		{prompt, 1, "", Over},
	}
	switch p {
	case Waking:
		return nil
	case Sending:
		return all[:1]
	case Purging:
		return append(all[:1:1], step{stop, 1, "", Purging})
	case Calling:
		return append(all[:1:1], step{stop, 8, "\r", Calling})
	}
	return all[:map[Phase]int{Settling: 4, Asking: 5, Closing: 6, Over: 7}[p]]
}

// then is steps behind those up to a phase.
func then(p Phase, more ...step) []step { return append(slices.Clone(until(p)), more...) }

// P21.1: what Wake returns, and that it is new each time.
func TestWake(t *testing.T) {
	want := "a: send \"\\r\";\nexpect \"=> \" go b after 8 go c;\nc: try 5 go a;\nfail;\nb: done;\n"
	if got := dialog.Text(Wake()); got != want {
		t.Errorf("%q", got)
	}
	parsed, err := dialog.Parse(want)
	for i := range parsed {
		parsed[i].At = 0
	}
	if got := Wake(); err != nil || !reflect.DeepEqual(got, parsed) {
		t.Errorf("%v, want %v", got, parsed)
	}
	spoiled := Wake()
	for i := range spoiled {
		for k := range spoiled[i].Arms {
			spoiled[i].Arms[k] = dialog.Arm{}
		}
		spoiled[i] = dialog.Step{Kind: dialog.Fail}
	}
	if got := dialog.Text(Wake()); got != want {
		t.Errorf("%q", got)
	}
}

// parsed is a dialogue.
func parsed(t *testing.T, text string) []dialog.Step {
	t.Helper()
	ss, err := dialog.Parse(text)
	if err != nil {
		t.Fatal(text, err)
	}
	return ss
}

// altered is a cargo in which something of an entry, or of an image, is another.
func (c cargo) altered(k int, alter func(e *api.Entry, image *[]byte)) cargo {
	own := cargo{slices.Clone(c.es), slices.Clone(c.images)}
	own.images[k] = bytes.Clone(own.images[k])
	alter(&own.es[k], &own.images[k])
	return own
}

// P21.1: a Host that is Over immediately: with the error of the manifest, and behind that with ErrPrint.
func TestWrong(t *testing.T) {
	g := two()
	eight := cargo{}
	for i := range 8 {
		eight = eight.and("n"+strconv.Itoa(i), i*128, "x", api.Crc)
	}
	none := func(e *api.Entry, image *[]byte) { *image = nil }
	for i, c := range []struct {
		g   cargo
		err error
	}{
		{cargo{}, api.ErrLimit},
		{cargo{nil, g.images}, api.ErrLimit},
		{cargo{[]api.Entry{}, [][]byte{}}, api.ErrLimit},
		{eight.and("n8", 8*128, "x", api.Crc), api.ErrLimit},
		{cargo{eight.and("n8", 8*128, "x", api.Crc).es, eight.images}, api.ErrLimit},
		{g.altered(0, func(e *api.Entry, _ *[]byte) { e.Name = "" }), api.ErrName},
		{g.altered(1, func(e *api.Entry, _ *[]byte) { e.Name = "1" }), api.ErrName},
		{g.altered(1, func(e *api.Entry, _ *[]byte) { e.Name = "a" }), api.ErrTwice},
		{g.altered(0, func(e *api.Entry, _ *[]byte) { e.Addr = -1 }), api.ErrRange},
		{g.altered(1, func(e *api.Entry, _ *[]byte) { e.Addr = 16257 }), api.ErrRange},
		{g.altered(0, func(e *api.Entry, _ *[]byte) { e.Size = 0 }), api.ErrRange},
		{cargo{}.and("a", 0, "", api.Crc), api.ErrRange},
		{cargo{}.and("a", 0, many(8193), api.Batch), api.ErrRange},
		{g.altered(0, func(e *api.Entry, _ *[]byte) { e.Way = 4 }), api.ErrRange},
		{g.altered(0, func(e *api.Entry, _ *[]byte) { e.Way = -1 }), api.ErrRange},
		{g.altered(1, func(e *api.Entry, _ *[]byte) { e.Addr = 0x17f }), api.ErrOverlap},
		// The manifest is looked at first.
		{cargo{g.altered(1, func(e *api.Entry, _ *[]byte) { e.Name = "1" }).es, nil}, api.ErrName},
		{g.altered(0, none).altered(1, func(e *api.Entry, _ *[]byte) { e.Addr = -1 }), api.ErrRange},
		{g.altered(0, none).and("a", 0, "x", api.Crc), api.ErrTwice},
		// The images.
		{cargo{g.es, nil}, api.ErrPrint},
		{cargo{g.es, g.images[:1]}, api.ErrPrint},
		{cargo{g.es[:1], g.images}, api.ErrPrint},
		{cargo{g.es, append(slices.Clone(g.images), nil)}, api.ErrPrint},
		{cargo{g.es, [][]byte{g.images[1], g.images[0]}}, api.ErrPrint},
		{g.altered(0, none), api.ErrPrint},
		{g.altered(1, none), api.ErrPrint},
		{g.altered(0, func(e *api.Entry, _ *[]byte) { e.Print++ }), api.ErrPrint},
		{g.altered(1, func(e *api.Entry, _ *[]byte) { e.Print ^= 1 << 31 }), api.ErrPrint},
		{g.altered(0, func(e *api.Entry, _ *[]byte) { e.Print = 0 }), api.ErrPrint},
		{g.altered(0, func(e *api.Entry, _ *[]byte) { e.Size++ }), api.ErrPrint},
		{g.altered(1, func(e *api.Entry, _ *[]byte) { e.Size-- }), api.ErrPrint},
		{g.altered(0, func(_ *api.Entry, b *[]byte) { (*b)[4]++ }), api.ErrPrint},
		{g.altered(1, func(_ *api.Entry, b *[]byte) { (*b)[0]++ }), api.ErrPrint},
		{g.altered(1, func(_ *api.Entry, b *[]byte) { *b = append(*b, 0) }), api.ErrPrint},
		{g.altered(1, func(_ *api.Entry, b *[]byte) { *b = (*b)[:2] }), api.ErrPrint},
		{g.altered(0, func(e *api.Entry, b *[]byte) { *b, e.Print = append(*b, 0), printed("hello\x00") }), api.ErrPrint},
	} {
		for _, wake := range [][]dialog.Step{nil, parsed(t, "send \"x\"; done;"), parsed(t, "send \"x\"; fail;")} {
			conf := usual
			conf.Wake = wake
			h := host(conf, c.g)
			if got := string(h.Out()); got != "" {
				t.Fatalf("cargo %d: %q", i, got)
			}
			if got := stateOf(h); got != (state{phase: Over, over: true, err: c.err}) {
				t.Fatalf("cargo %d: %v, want %v", i, got, c.err)
			}
			follow(t, conf, c.g, []string{tick, prompt + "C", tick, ack, tick, strings.Repeat("=> ", 101), tick, tick, many(300), many(1), tick})
		}
	}
}

// P21.1: cargoes that are not wrong, at the limits of a manifest.
func TestRight(t *testing.T) {
	eight := cargo{}
	for i := range 8 {
		eight = eight.and("n"+strconv.Itoa(i), i*128, many(i+1), api.Way(i%4))
	}
	for i, g := range []cargo{
		hello(api.Check), two(), eight,
		cargo{}.and(strings.Repeat("n", 32), 8192, many(8192), api.Batch),
		cargo{}.and("a", 16383, "x", api.Batch),
		cargo{}.and("a", 0, "\x00", api.Large).and("b", 16256, many(128), api.Crc),
	} {
		h := host(usual, g)
		if got := stateOf(h); got != (state{}) {
			t.Errorf("cargo %d: %v", i, got)
		}
		if got := string(h.Out()); got != "\r" {
			t.Errorf("cargo %d: %q", i, got)
		}
	}
}

// P21.1, P21.3: the dialogue that wakes: the usual one if none is given, and others, which may end at once.
func TestWaking(t *testing.T) {
	with := func(text string) Config {
		c := usual
		c.Wake = parsed(t, text)
		return c
	}
	empty := usual
	empty.Wake = []dialog.Step{}
	g := hello(api.Crc)
	silent := state{phase: Over, over: true, err: api.ErrSilent}
	usually := []step{
		{"", 7, "", Waking}, {"", 1, "\r", Waking}, {"", 7, "", Waking}, {"", 1, "\r", Waking}, {"", 8, "\r", Waking},
		{"=>", 8, "\r", Waking}, {" ", 8, "\r", Waking}, {"= >\r\n", 7, "", Waking}, {"x", 1, "", Over}, {prompt, 9, "", Over},
	}
	wrong := usual
	wrong.Wake = []dialog.Step{{Kind: dialog.Send, Text: "x"}, {Kind: dialog.Goto, To: "nowhere"}}
	odd := usual
	odd.Wake = []dialog.Step{{Kind: dialog.Send, Text: "x"}, {Kind: 77}}
	long := usual
	long.Wake = slices.Repeat([]dialog.Step{{Kind: dialog.Send, Text: "x"}}, 65)
	happens(t, []story{
		{"usually in vain", usual, g, "\r", usually, silent},
		{"usually, no steps", empty, g, "\r", usually, silent},
		{"at once", usual, g, "\r", []step{{prompt, 0, "", Waking}, {"", 1, load, Sending}}, state{phase: Sending}},
		{"in parts", usual, g, "\r", []step{{"\r\n=", 1, "", Waking}, {">", 1, "", Waking}, {" ", 1, load, Sending}}, state{phase: Sending}},
		{"in the last tick", usual, g, "\r", []step{{"", 47, "\r\r\r\r\r", Waking}, {prompt, 1, load, Sending}}, state{phase: Sending}},
		{"a tick too late", usual, g, "\r", []step{{"", 48, "\r\r\r\r\r", Over}, {prompt, 1, "", Over}}, silent},
		{"behind another try", usual, g, "\r", []step{{"", 8, "\r", Waking}, {"?" + prompt, 1, load, Sending}}, state{phase: Sending}},
		{"of its own", with(`a: send "x"; expect "y" go b, "n" go c after 2 go a; b: send "z"; done; c: send "q"; fail;`), g, "x",
			[]step{{prompt, 1, "", Waking}, {"", 1, "x", Waking}, {"y", 1, "z" + load, Sending}}, state{phase: Sending}},
		{"of its own, ill", with(`a: send "x"; expect "y" go b, "n" go c after 2 go a; b: send "z"; done; c: send "q"; fail;`), g, "x",
			[]step{{"ny", 1, "q", Over}, {"y", 1, "", Over}}, silent},
		{"well by a tick", with(`expect "y" go b after 2 go b; b: send "z"; done;`), g, "",
			[]step{{"", 1, "", Waking}, {"", 1, "z" + load, Sending}, {"C", 1, short(1, "hello"), Sending}}, state{phase: Sending}},
		{"ill by a tick", with(`expect "y" go b after 2 go c; b: done; c: send "z";`), g, "",
			[]step{{"", 1, "", Waking}, {"", 1, "z", Over}}, silent},
		{"on and on", with(`a: send "x"; expect "y" go a after 1 go a;`), g, "x",
			[]step{{"", 3, "xxx", Waking}, {"yy", 1, "xxx", Waking}, {"", 200, strings.Repeat("x", 200), Waking}}, state{phase: Waking}},
		{"well at once", with(`send "x"; send "y"; done;`), g, "xy" + load, []step{{"", 0, "", Sending}, {"C", 1, short(1, "hello"), Sending}}, state{phase: Sending}},
		{"well at once, silently", with(`done;`), g, load, nil, state{phase: Sending}},
		{"ill at once", with(`send "x"; fail;`), g, "x", []step{{prompt, 1, "", Over}}, silent},
		{"behind its end", with(`send "x";`), g, "x", []step{{prompt, 1, "", Over}}, silent},
		{"without an end", with(`a: send "x"; go a;`), g, strings.Repeat("x", 128), []step{{prompt, 1, "", Over}}, silent},
		{"wrong", wrong, g, "", []step{{prompt, 1, "", Over}}, silent},
		{"of no kind", odd, g, "x", []step{{prompt, 1, "", Over}}, silent},
		{"too long", long, g, "", []step{{prompt, 1, "", Over}}, silent},
	})
}

// P21.1, P21.2: a dialogue that has ended at once has the first image loaded, for which ticks count only from the first Tick on.
func TestWokenAtOnce(t *testing.T) {
	c := small
	c.Wake = parsed(t, "done;")
	happens(t, []story{{"at once", c, hello(api.Crc), load, []step{{"", 0, "", Sending}, {"", 1, stop, Purging}}, state{phase: Purging, failed: 1}}})
}

// P21.2, P21.3: an image by each of the Ways, byte by byte.
func TestWays(t *testing.T) {
	big := many(1300)
	ask := fmt.Sprintf("sum 3 514\r")
	line := fmt.Sprintf("sum 3 514 %x\r\n", printed(big))
	end := []step{{prompt, 1, ask, Asking}, {line, 1, "", Closing}, {prompt, 1, "", Over}}
	var sures, shorts []step
	for i := range 10 {
		sures = append(sures, step{ack, 1, sure(byte(i+2), big[min(i*128+128, 1280):min(i*128+256, 1300)]), Sending})
		shorts = append(shorts, step{ack, 1, short(byte(i+2), big[min(i*128+128, 1280):min(i*128+256, 1300)]), Sending})
	}
	larges := []step{
		{ack, 1, short(2, big[1024:1152]), Sending}, {ack, 1, short(3, big[1152:1280]), Sending}, {ack, 1, short(4, big[1280:]), Sending},
		{ack, 1, eot, Sending},
	}
	run := func(parts ...[]step) []step { return append(slices.Concat(parts...), end...) }
	closing := []step{{ack, 1, eot, Sending}, {ack, 1, "", Settling}}
	first := encoded(1, big[:1024], crc)
	done := state{phase: Over, over: true, brought: 1}
	of := func(way api.Way) cargo { return cargo{}.and("boot.2", 3, big, way) }
	happens(t, []story{
		{"check", usual, of(api.Check), "\r", run([]step{{prompt, 1, "load check 3\r", Sending}, {"C", 1, "", Sending}, {nak, 1, sure(1, big[:128]), Sending}}, sures, closing), done},
		{"crc", usual, of(api.Crc), "\r", run([]step{{prompt, 1, "load crc 3\r", Sending}, {"C", 1, short(1, big[:128]), Sending}}, shorts, closing), done},
		{"crc, checksums wanted", usual, of(api.Crc), "\r", run([]step{{prompt, 1, "load crc 3\r", Sending}, {nak, 1, sure(1, big[:128]), Sending}}, sures, closing), done},
		{"large", usual, of(api.Large), "\r", run([]step{{prompt, 1, "load large 3\r", Sending}, {"C", 1, first, Sending}}, larges, closing[1:]), done},
		{"large, checksums wanted", usual, of(api.Large), "\r", []step{{prompt, 1, "load large 3\r", Sending}, {nak, 1, encoded(1, big[:1024], checked), Sending}}, state{phase: Sending}},
		{"batch", usual, of(api.Batch), "\r", run([]step{{prompt, 1, "load batch 3\r", Sending}, {"C", 1, head("boot.2", 1300), Sending}, {ack, 1, "", Sending}, {"C", 1, first, Sending}},
			larges, []step{{ack, 1, "", Sending}, {"C", 1, last(), Sending}, {ack, 1, "", Settling}}), done},
	})
}

// P21.3: one image, in as many ticks as there are steps, in one Put, and byte by byte in one tick.
func TestDelivers(t *testing.T) {
	all := prompt + "C" + ack + ack + "\r\n" + prompt + right + prompt
	out := load + short(1, "hello") + eot + ask
	done := state{phase: Over, over: true, brought: 1}
	g := hello(api.Crc)
	happens(t, []story{
		{"in steps", usual, g, "\r", until(Over), done},
		{"in one Put", usual, g, "\r", []step{{all, 0, "", Waking}, {"", 1, out, Over}}, done},
		{"in one Put, and more", usual, g, "\r", []step{{all + all, 1, out, Over}, {all, 9, "", Over}}, done},
		{"with one tick each", small, g, "\r", []step{{all, 1, out, Over}}, done},
	})
	h := host(usual, g)
	for i := range all {
		happen(h, all[i:i+1])
	}
	if h.Phase() != Waking || string(h.Out()) != "\r" {
		t.Error("bytes are taken ahead of the tick")
	}
	h.Tick()
	if got := string(h.Out()); got != out || h.Phase() != Over {
		t.Errorf("byte by byte: %q", got)
	}
}

// P21.2, P21.3: what is abandoned while Sending, and with which error.
func TestSending(t *testing.T) {
	g := hello(api.Crc)
	block := short(1, "hello")
	once := usual
	once.Tries = 1
	purging := state{phase: Purging, failed: 1}
	with := func(err error) state { return state{phase: Over, over: true, err: err, failed: 1} }
	cancelled := then(Sending, step{"C" + ack + stop, 1, block + eot, Over})
	naks := then(Sending, step{"C" + nak + nak, 1, block + block + block, Sending}, step{nak, 1, stop, Over})
	late := then(Sending, step{"", 3, "", Sending}, step{"C", 1, block, Sending}, step{"", 3, block, Sending}, step{"", 4, block, Sending}, step{"", 3, "", Sending}, step{"", 1, stop, Over})
	never := then(Sending, step{"", 10, "", Sending}, step{"", 1, stop, Over})
	again := func(steps []step) []step {
		steps = slices.Clone(steps)
		steps[len(steps)-1].phase = Purging
		return steps
	}
	happens(t, []story{
		{"cancelled", once, g, "\r", cancelled, with(api.ErrCancel)},
		{"naks", once, g, "\r", naks, with(api.ErrTries)},
		{"late", once, g, "\r", late, with(api.ErrTries)},
		{"never", once, g, "\r", never, with(api.ErrTries)},
		{"cancelled, once more", usual, g, "\r", again(cancelled), purging},
		{"naks, once more", usual, g, "\r", again(naks), purging},
		{"late, once more", usual, g, "\r", again(late), purging},
		{"never, once more", usual, g, "\r", again(never), purging},
		{"a prompt is nothing", usual, g, "\r", then(Sending, step{prompt + right + prompt, 1, "", Sending}, step{prompt + "C" + prompt, 1, block, Sending}), state{phase: Sending}},
		{"one Can", usual, g, "\r", then(Sending, step{can, 1, "", Sending}, step{"x" + can + "C", 1, block, Sending}, step{can, 1, "", Sending}, step{can, 1, "", Purging}), purging},
		// The first of two Cans went to the dialogue.
		{"half a cancellation", usual, g, "\r", []step{{prompt[:2], 1, "", Waking}, {can, 1, "", Waking}, {prompt + can, 1, load, Sending}}, state{phase: Sending}},
	})
}

// P21.3: which phase is behind each byte, in each phase.
func TestEveryByte(t *testing.T) {
	g := hello(api.Crc)
	for _, p := range []Phase{Waking, Sending, Settling, Asking, Closing, Purging, Calling, Over} {
		for _, before := range []string{"", "=>", can, right[:len(right)-1]} {
			for c := range 256 {
				var events []string
				for _, s := range until(p) {
					events = append(events, s.put)
					for range s.ticks {
						events = append(events, tick)
					}
				}
				follow(t, usual, g, append(events, before+string([]byte{byte(c)}), tick, prompt, tick))
			}
		}
	}
}

// P21.2, P21.3: waiting lasts 4 times the ticks, of which the tick in which it begins is one; then the attempt is abandoned with ErrSilent.
func TestSilent(t *testing.T) {
	g := hello(api.Crc)
	once := usual
	once.Tries = 1
	silent := state{phase: Over, over: true, err: api.ErrSilent, failed: 1}
	well := state{phase: Over, over: true, brought: 1}
	purging := state{phase: Purging, failed: 1}
	happens(t, []story{
		{"settling", once, g, "\r", then(Settling, step{"=>", 14, "", Settling}, step{"=", 1, "", Over}), silent},
		{"asking", once, g, "\r", then(Asking, step{right[:9], 14, "", Asking}, step{"=>", 1, "", Over}), silent},
		{"closing", once, g, "\r", then(Closing, step{right, 14, "", Closing}, step{"=>", 1, "", Over}), silent},
		{"settling, once more", usual, g, "\r", then(Settling, step{"", 14, "", Settling}, step{"", 1, "", Purging}), purging},
		{"asking, once more", usual, g, "\r", then(Asking, step{"", 14, "", Asking}, step{"", 1, "", Purging}), purging},
		{"closing, once more", usual, g, "\r", then(Closing, step{"", 14, "", Closing}, step{"", 1, "", Purging}), purging},
		{"in the last tick", once, g, "\r", then(Settling, step{"", 14, "", Settling}, step{prompt, 1, ask, Asking}, step{"", 14, "", Asking},
			step{right, 1, "", Closing}, step{"", 14, "", Closing}, step{prompt, 1, "", Over}), well},
		// A phase that begins waits anew.
		{"anew", once, g, "\r", then(Settling, step{"", 10, "", Settling}, step{prompt, 14, ask, Asking}, step{right, 15, "", Closing}, step{"", 1, "", Over}), silent},
	})
}

// P21.3: what is told behind the question: the right line, another one, or none.
func TestAsking(t *testing.T) {
	g := hello(api.Crc)
	wrong := []string{
		"", "x", "\r\n", "?\r\n", right[1:], right[:len(right)-1], right[:len(right)-2], right[:len(right)-2] + "\n", right[:len(right)-2] + "\n\r",
		"sum 100 5 0\r\n", "sum 100 5 62c0215\r\n", "sum 100 4 62c0214\r\n", "sum 101 5 62c0214\r\n", "sum 0 5 62c0214\r\n",
		"sum 100 5  62c0214\r\n", "sum 100 5 062c0214\r\n", "sum 100 5 62C0214\r\n", "sum 0x100 5 62c0214\r\n", "sum 100 5 62c02140\r\n",
		"sum 100 5 62c0214 \r\n", "Sum 100 5 62c0214\r\n", "sum 256 5 103547412\r\n", "sum 100 5\r\n", "sum  100 5 62c0214\r\n",
		right[:9] + "x" + right[9:], right[:9] + right[10:], strings.ReplaceAll(right, " ", ""), "=>",
	}
	well := []string{right, "x" + right, "\r\n" + right, "sum 100 5 0\r\n" + right, "sum 1" + right, "1" + right, "=>" + right, "=>=" + right, right + "x", right + right, right + "sum 100 5 0\r\n", right + "?\r\n="}
	bad := state{phase: Purging, failed: 1}
	once := usual
	once.Tries = 1
	over := state{phase: Over, over: true, err: api.ErrPrint, failed: 1}
	for _, w := range wrong {
		happens(t, []story{
			{"wrong " + w, usual, g, "\r", then(Asking, step{w, 1, "", Asking}, step{prompt, 1, "", Purging}), bad},
			{"wrong at once " + w, usual, g, "\r", then(Asking, step{w + prompt, 1, "", Purging}), bad},
			{"wrong, too often " + w, once, g, "\r", then(Asking, step{w + prompt, 1, "", Over}), over},
			{"too late " + w, usual, g, "\r", then(Asking, step{w + prompt + right + prompt, 1, "", Purging}), bad},
		})
	}
	for _, w := range well {
		happens(t, []story{
			{"right " + w, usual, g, "\r", then(Asking, step{w, 1, "", Closing}, step{prompt, 1, "", Over}), state{phase: Over, over: true, brought: 1}},
			{"right at once " + w, usual, g, "\r", then(Asking, step{w + prompt, 1, "", Over}), state{phase: Over, over: true, brought: 1}},
			// The line belongs behind the question.
			{"too early " + w, usual, g, "\r", then(Settling, step{w, 1, "", Settling}, step{prompt, 1, ask, Asking}, step{prompt, 1, "", Purging}), bad},
		})
	}
}

// P21.2, P21.3: Purging lasts twice the ticks; then CR is output, and the Prompt waited for, whose lack is one more abandoned attempt.
func TestPurging(t *testing.T) {
	g := hello(api.Crc)
	again := []step{{prompt, 1, load, Sending}, {"C" + ack + ack + prompt + right + prompt, 1, short(1, "hello") + eot + ask, Over}}
	happens(t, []story{
		// A byte ended the attempt, so that the tick in which it was taken counts.
		{"by a byte", usual, g, "\r", then(Purging, step{"", 6, "", Purging}, step{"", 1, "\r", Calling}), state{phase: Calling, failed: 1}},
		// The tick itself ended it.
		{"by a tick", usual, g, "\r", then(Settling, step{"", 15, "", Purging}, step{"", 7, "", Purging}, step{"", 1, "\r", Calling}), state{phase: Calling, failed: 1}},
		{"by the sender's tick", usual, g, "\r", then(Sending, step{"", 11, stop, Purging}, step{"", 7, "", Purging}, step{"", 1, "\r", Calling}), state{phase: Calling, failed: 1}},
		{"bytes are nothing", usual, g, "\r", then(Purging, step{prompt, 3, "", Purging}, step{"C" + right + prompt, 3, "", Purging}, step{prompt, 1, "\r", Calling}), state{phase: Calling, failed: 1}},
		{"halves", usual, g, "\r", then(Purging, step{"=>", 7, "\r", Calling}, step{" ", 1, "", Calling}, step{prompt, 1, load, Sending}), state{phase: Sending, failed: 1}},
		{"calling", usual, g, "\r", then(Calling, step{right + "C=>", 1, "", Calling}, step{"", 14, "", Calling}, step{prompt, 1, load, Sending}), state{phase: Sending, failed: 1}},
		{"once more", usual, g, "\r", then(Calling, again...), state{phase: Over, over: true, brought: 1, failed: 1}},
		{"nobody answers", usual, g, "\r", then(Calling, step{"=>", 15, "", Calling}, step{"", 1, "", Purging}, step{"", 7, "", Purging}, step{"", 1, "\r", Calling}, step{"", 15, "", Calling}, step{"", 1, "", Over}, step{prompt, 9, "", Over}),
			state{phase: Over, over: true, err: api.ErrSilent, failed: 3}},
		{"answered at last", usual, g, "\r", then(Calling, append([]step{{"", 16, "", Purging}, {"", 8, "\r", Calling}}, again...)...), state{phase: Over, over: true, brought: 1, failed: 2}},
		{"another error each", usual, g, "\r", then(Calling, step{prompt + "C" + ack + ack + prompt + prompt, 1, load + short(1, "hello") + eot + ask, Purging}, step{"", 7, "\r", Calling},
			step{prompt, 1, load, Sending}, step{"", 11, stop, Over}), state{phase: Over, over: true, err: api.ErrTries, failed: 3}},
		{"a new sender", usual, g, "\r", then(Sending, step{"C" + ack + stop, 8, short(1, "hello") + eot + "\r", Calling}, step{prompt + ack + "C", 1, load + short(1, "hello"), Sending}), state{phase: Sending, failed: 1}},
		{"one Can each", usual, g, "\r", then(Sending, step{"", 11, stop, Purging}, step{can, 8, "\r", Calling}, step{can + prompt + can, 1, load, Sending}, step{"C", 1, short(1, "hello"), Sending}), state{phase: Sending, failed: 1}},
	})
}

// P21.3: several images: each has its own attempts, which are counted together.
func TestImages(t *testing.T) {
	c := usual
	c.Tries = 2
	first := "C" + ack + ack + prompt + right + prompt
	said := short(1, "hello") + eot + ask + "load check 200\r"
	second := fmt.Sprintf("%s%s%s\r\n%ssum 200 3 %x\r\n%s", nak, ack, ack, prompt, printed("xyz"), prompt)
	answered := sure(1, "xyz") + eot + "sum 200 3\r"
	eight := cargo{}
	var all, out string
	for i := range 8 {
		image := many(i + 1)
		eight = eight.and("n"+strconv.Itoa(7-i), (7-i)*128, image, api.Crc)
		all += "C" + ack + ack + prompt + fmt.Sprintf("sum %x %x %x\r\n", (7-i)*128, i+1, printed(image)) + prompt
		out += fmt.Sprintf("load crc %x\r", (7-i)*128) + short(1, image) + eot + fmt.Sprintf("sum %x %x\r", (7-i)*128, i+1)
	}
	room := c
	room.Room = 4096
	happens(t, []story{
		{"both", c, two(), "\r", []step{{prompt, 1, load, Sending}, {first, 1, said, Sending}, {second, 1, answered, Over}}, state{phase: Over, over: true, brought: 2}},
		{"both at once", c, two(), "\r", []step{{prompt + first + second, 1, load + said + answered, Over}}, state{phase: Over, over: true, brought: 2}},
		{"the second one fails", c, two(), "\r", []step{{prompt + first, 1, load + said, Sending}, {stop, 8, "\r", Calling}, {prompt + stop, 1, "load check 200\r", Over}},
			state{phase: Over, over: true, err: api.ErrCancel, brought: 1, failed: 2}},
		{"attempts of each", c, two(), "\r", []step{{prompt + stop, 8, load + "\r", Calling}, {prompt + first + stop, 8, load + said + "\r", Calling}, {prompt + second, 1, "load check 200\r" + answered, Over}},
			state{phase: Over, over: true, brought: 2, failed: 2}},
		{"attempts of each, in vain", c, two(), "\r", []step{{prompt + stop, 8, load + "\r", Calling}, {prompt + first + stop, 8, load + said + "\r", Calling}, {prompt + stop, 1, "load check 200\r", Over}},
			state{phase: Over, over: true, err: api.ErrCancel, brought: 1, failed: 3}},
		{"the first one's line", c, two(), "\r", []step{{prompt + first + nak + ack + ack + prompt + right + prompt, 1, load + said + answered, Purging}}, state{phase: Purging, brought: 1, failed: 1}},
		{"eight", room, eight, "\r", []step{{prompt + all, 1, out, Over}}, state{phase: Over, over: true, brought: 8}},
	})
}

// P21.4: as many bytes wait as there is room for; one more, and the Host is Over with ErrLost, unless it is Over.
func TestRoom(t *testing.T) {
	for _, n := range edges {
		c := usual
		c.Room = n
		room := within(n, 1, 4096)
		for _, parts := range [][]int{{room}, {room - 1, 1}, {1, room - 1}, {room / 2, 0, room - room/2}, {0}} {
			h := host(c, hello(api.Crc))
			total := 0
			for _, k := range parts {
				h.Put(make([]byte, k)...)
				total += k
			}
			if got := stateOf(h); got != (state{}) {
				t.Fatalf("room %d, %v: %v", n, parts, got)
			}
			h.Put()
			h.Put(make([]byte, room-total+1)...)
			if got := stateOf(h); got != (state{phase: Over, over: true, err: api.ErrLost}) {
				t.Fatalf("room %d, %v and one more: %v", n, parts, got)
			}
			if b, s := h.Heard(); len(b) != 0 || len(s) != 0 || string(h.Out()) != "\r" {
				t.Fatalf("room %d: %d bytes were taken ahead of the tick", n, len(b))
			}
			h.Tick()
			if b, s := h.Heard(); len(b) != room || len(s) != 1 || s[0] != (demux.Segment{Mode: demux.Purge, Size: room}) || len(h.Out()) != 0 {
				t.Fatalf("room %d: %d bytes were taken, %v", n, len(b), s)
			}
		}
		h := host(c, hello(api.Crc))
		for range 3 { // a tick makes room
			h.Put(make([]byte, room)...)
			h.Tick()
		}
		if got := stateOf(h); got != (state{}) {
			t.Fatalf("room %d, and ticks: %v", n, got)
		}
	}
}

// P21.4: bytes that are lost in each phase. What waits is nobody's then; an attempt is not abandoned by it, and one that was over stays as it was.
func TestLost(t *testing.T) {
	g := hello(api.Crc)
	c := usual
	c.Room = 30
	for p := Waking; p <= Over; p++ {
		failed, brought := 0, 0
		if p == Purging || p == Calling {
			failed = 1
		}
		var err error = api.ErrLost
		if p == Over {
			err, brought = nil, 1
		}
		end := state{phase: Over, over: true, err: err, failed: failed, brought: brought}
		happens(t, []story{
			{"lost", c, g, "\r", then(p, step{many(31), 0, "", Over}, step{prompt, 0, "", Over}, step{"", 5, "", Over}, step{many(31), 1, "", Over}), end},
			{"lost in two", c, g, "\r", then(p, step{many(29), 0, "", p}, step{"ab", 0, "", Over}, step{"", 50, "", Over}), end},
		})
		if p != Over {
			happens(t, []story{{"a prompt waits", c, g, "\r", then(p, step{prompt, 0, "", p}, step{many(31), 0, "", Over}, step{"", 1, "", Over}), end}})
		}
	}
	cancelled := usual
	cancelled.Tries = 1
	happens(t, []story{{"over already", cancelled, g, "\r", then(Sending, step{stop, 1, "", Over}, step{many(301), 1, "", Over}), state{phase: Over, over: true, err: api.ErrCancel, failed: 1}}})
}

// P21.1, P21.2: Tries and the ticks at their limits, while nobody answers behind the first prompt.
func TestLimits(t *testing.T) {
	for _, tries := range edges {
		for _, wait := range edges {
			c := Config{Sender: sender.Config{Tries: tries, Wait: wait}, Tries: tries, Room: 9}
			n, w := within(tries, 1, 9), within(wait, 1, 99)
			h := host(c, hello(api.Crc))
			happen(h, prompt)
			// The sender's tries once, and for each further attempt the quiet and the call, which is in vain: nobody has the image loaded once more.
			ticks := n*w + (n-1)*(2*w+4*w)
			for k := range ticks {
				if over, _ := h.Done(); over {
					t.Fatalf("%d tries, %d ticks: over behind %d ticks, want %d", tries, wait, k, ticks)
				}
				h.Tick()
			}
			want := state{phase: Over, over: true, err: api.ErrSilent, failed: n}
			if n == 1 {
				want.err = api.ErrTries
			}
			if got := stateOf(h); got != want {
				t.Fatalf("%d tries, %d ticks: %v, want %v", tries, wait, got, want)
			}
			if got, want := string(h.Out()), "\r"+load+stop+strings.Repeat("\r", n-1); got != want {
				t.Fatalf("%d tries, %d ticks: %q, want %q", tries, wait, got, want)
			}
		}
	}
}

// P21.1, P21.4: who is given which bytes, worked out by hand.
func TestHeard(t *testing.T) {
	h := host(usual, two())
	put := func(text string, ticks int) {
		happen(h, text)
		for range ticks {
			h.Tick()
		}
	}
	is := func(text string, want ...demux.Segment) {
		t.Helper()
		b, s := h.Heard()
		if string(b) != text || !slices.Equal(s, want) {
			t.Fatalf("%q %v, want %q %v", b, s, text, want)
		}
	}
	is("")
	put("ab=", 0)
	is("")
	put("> ", 1)
	is("ab=> ", demux.Segment{Mode: demux.Text, From: 0, Size: 5})
	put("C\x06"+stop+"xy", 1)
	is("ab=> C\x06"+stop+"xy", demux.Segment{Mode: demux.Text, From: 0, Size: 5}, demux.Segment{Mode: demux.Transfer, From: 5, Size: 4}, demux.Segment{Mode: demux.Purge, From: 9, Size: 2})
	put("z", 7)
	if h.Phase() != Calling {
		t.Fatal("not Calling")
	}
	put("!=> C\x06\x06\r\n=> "+right+"=> ", 1)
	text := "ab=> C\x06" + stop + "xyz!=> C\x06\x06\r\n=> " + right + "=> "
	list := []demux.Segment{{Mode: demux.Text, From: 0, Size: 5}, {Mode: demux.Transfer, From: 5, Size: 4}, {Mode: demux.Purge, From: 9, Size: 3},
		{Mode: demux.Text, From: 12, Size: 4}, {Mode: demux.Transfer, From: 16, Size: 3}, {Mode: demux.Text, From: 19, Size: 5 + len(right) + 3}}
	is(text, list...)
	put(many(301), 0)
	is(text, list...)
	h.Tick()
	is(text+many(300), append(list, demux.Segment{Mode: demux.Purge, From: len(text), Size: 300})...)
	h.Tick()
	put("end", 1)
	is(text+many(300)+"end", append(list, demux.Segment{Mode: demux.Purge, From: len(text), Size: 303})...)
}

// P21.1: Out is what was output since it was asked last.
func TestOut(t *testing.T) {
	h := host(usual, hello(api.Crc))
	happen(h, prompt)
	h.Tick()
	happen(h, "C")
	h.Tick()
	h.Tick()
	if got := string(h.Out()); got != "\r"+load+short(1, "hello") {
		t.Fatalf("%q", got)
	}
	for range 3 {
		if got := h.Out(); len(got) != 0 {
			t.Fatalf("%q", got)
		}
	}
}

// reading is the chapter read once more: what a Host should do. The texts that it waits for are compared with what was heard in the phase.
type reading struct {
	c             Config
	g             cargo
	phase         Phase
	err           error
	wait, left    int
	seen          string
	tried         int
	brought, lost int
	waits         string
	heard         string
	modes         []demux.Mode
	out           string
	play          *play.Play
	put           func(byte) []byte
	tick          func() []byte
	done          func() (bool, error)
}

// read is one that begins.
func read(c Config, g cargo) *reading {
	r := &reading{c: c, g: g, wait: within(c.Sender.Wait, 1, 99)}
	_, err := manifest.Check(g.es)
	if err == nil && len(g.es) != len(g.images) {
		err = api.ErrPrint
	}
	for i := range g.es {
		if err == nil && (len(g.images[i]) != g.es[i].Size || sum.Print(g.images[i]) != g.es[i].Print) {
			err = api.ErrPrint
		}
	}
	if err != nil {
		r.phase, r.err = Over, err
		return r
	}
	wake := c.Wake
	if len(wake) == 0 {
		wake, _ = dialog.Parse(`a: send "\r"; expect "=> " go b after 8 go c; c: try 5 go a; fail; b: done;`)
	}
	var said []byte
	r.play, said = play.Of(wake)
	r.out += string(said)
	r.goOn()
	return r
}

// happen is a text that is put, or a tick.
func (r *reading) happen(e string) {
	if e != tick {
		room := within(r.c.Room, 1, 4096) - len(r.waits)
		r.waits += e[:min(room, len(e))]
		if len(e) > room && r.phase != Over {
			r.phase, r.err = Over, api.ErrLost
		}
		return
	}
	for i := range len(r.waits) {
		r.one(r.waits[i])
	}
	r.waits = ""
	switch r.phase {
	case Waking:
		r.out += string(r.play.Tick())
		r.goOn()
	case Sending:
		r.out += string(r.tick())
		r.goOn()
	case Over:
	default:
		r.left--
		if r.left == 0 && r.phase == Purging {
			r.out += "\r"
			r.begin(Calling)
		} else if r.left == 0 {
			r.abandon(api.ErrSilent)
		}
	}
}

// goOn is what follows when the dialogue or the sender is over.
func (r *reading) goOn() {
	switch r.phase {
	case Waking:
		if r.play.State() == play.Well {
			r.load()
		} else if r.play.State() == play.Ill {
			r.phase, r.err = Over, api.ErrSilent
		}
	case Sending:
		if over, err := r.done(); over && err != nil {
			r.abandon(err)
		} else if over {
			r.begin(Settling)
		}
	}
}

// begin is a phase in which it waits.
func (r *reading) begin(p Phase) { r.phase, r.left, r.seen = p, 4*r.wait, "" }

// one is a byte that is taken.
func (r *reading) one(c byte) {
	r.heard += string([]byte{c})
	r.modes = append(r.modes, []demux.Mode{demux.Text, demux.Transfer, demux.Text, demux.Text, demux.Text, demux.Purge, demux.Text, demux.Purge}[r.phase])
	r.seen += string([]byte{c})
	prompted := strings.HasSuffix(r.seen, "=> ")
	switch r.phase {
	case Waking:
		r.out += string(r.play.Put(c))
		r.goOn()
	case Sending:
		r.out += string(r.put(c))
		r.goOn()
	case Settling:
		if e := r.g.es[r.brought]; prompted {
			r.out += fmt.Sprintf("sum %x %x\r", e.Addr, e.Size)
			r.begin(Asking)
		}
	case Asking:
		e := r.g.es[r.brought]
		if strings.HasSuffix(r.seen, fmt.Sprintf("sum %x %x %x\r\n", e.Addr, e.Size, e.Print)) {
			r.begin(Closing)
		} else if prompted {
			r.abandon(api.ErrPrint)
		}
	case Closing:
		if prompted {
			r.brought++
			r.tried = 0
			if r.brought == len(r.g.es) {
				r.phase = Over
			} else {
				r.load()
			}
		}
	case Calling:
		if prompted {
			r.load()
		}
	}
}

// load begins an image.
func (r *reading) load() {
	e, image := r.g.es[r.brought], r.g.images[r.brought]
	r.out += fmt.Sprintf("load %s %x\r", []string{"check", "crc", "large", "batch"}[e.Way], e.Addr)
	r.phase = Sending
	if e.Way == api.Batch {
		s, err := batch.Of(r.c.Sender, api.File{Name: e.Name}, image)
		if err != nil {
			panic(err)
		}
		r.put, r.tick, r.done = s.Put, s.Tick, s.Done
		return
	}
	s := sender.Of(r.c.Sender, block.Number(block.Split(image, e.Way == api.Large)), e.Way != api.Check, true)
	r.put, r.tick, r.done = s.Put, s.Tick, s.Done
}

// abandon ends an attempt.
func (r *reading) abandon(err error) {
	r.lost++
	r.tried++
	if r.tried == within(r.c.Tries, 1, 9) {
		r.phase, r.err = Over, err
		return
	}
	r.phase, r.left = Purging, 2*r.wait
}

// state is what should be told.
func (r *reading) state() state {
	return state{r.phase, r.phase == Over, r.err, r.brought, r.lost}
}

// segments is to whom the bytes should be given.
func (r *reading) segments() []demux.Segment {
	var list []demux.Segment
	for i, m := range r.modes {
		if i > 0 && m == r.modes[i-1] {
			list[len(list)-1].Size++
			continue
		}
		list = append(list, demux.Segment{Mode: m, From: i, Size: 1})
	}
	return list
}

// is compares a Host with the reading, of which the output is taken.
func (r *reading) is(t *testing.T, h *Host, name func() string) {
	t.Helper()
	if got, want := string(h.Out()), r.out; got != want {
		t.Fatalf("%s: %.80q goes out, want %.80q", name(), got, want)
	}
	if got, want := stateOf(h), r.state(); got != want {
		t.Fatalf("%s: %v, want %v", name(), got, want)
	}
	r.out = ""
}

// follow has events happen to a Host and to the reading.
func follow(t *testing.T, c Config, g cargo, events []string) {
	t.Helper()
	h, r := host(c, g), read(c, g)
	r.is(t, h, func() string { return "at first" })
	for i, e := range events {
		happen(h, e)
		r.happen(e)
		r.is(t, h, func() string { return fmt.Sprintf("%.40q", events[:i+1]) })
	}
	b, s := h.Heard()
	if string(b) != r.heard || !slices.Equal(s, r.segments()) {
		t.Fatalf("%.40q: %q %v, want %q %v", events, b, s, r.heard, r.segments())
	}
}

// pieces are what small runs are made of.
func pieces() []string {
	return []string{tick, prompt, "=>", " ", "C", ack, nak, stop, right, "sum 100 5 0\r\n", strings.Repeat(tick, 3)}
}

// expanded is a run whose pieces of several ticks are single ones.
func expanded(run []string) []string {
	var events []string
	for _, e := range run {
		if n := len(e) / len(tick); strings.HasPrefix(e, tick) {
			events = append(events, slices.Repeat([]string{tick}, n)...)
		} else {
			events = append(events, e)
		}
	}
	return events
}

// begins is the events up to the beginning of a phase, of which the next tick takes the bytes.
func begins(p Phase, wait int) []string {
	text := prompt + "C" + ack + ack + prompt + right
	switch p {
	case Waking:
		return nil
	case Sending:
		return []string{prompt}
	case Settling:
		return []string{text[:6]}
	case Asking:
		return []string{text[:9]}
	case Closing:
		return []string{text}
	case Purging:
		return []string{prompt + stop}
	}
	return append([]string{prompt + stop}, slices.Repeat([]string{tick}, 2*wait)...)
}

// P21.3, P21.4: every run of up to three pieces, and some of four, at the beginning of each phase, against the reading.
func TestAllSmall(t *testing.T) {
	list := pieces()
	runs := [][]string{{}}
	for k := range 4 {
		var longer [][]string
		for i, r := range runs {
			for j, p := range list {
				if k < 3 || (i+j)%4 == 0 {
					longer = append(longer, append(slices.Clone(r), p))
				}
			}
		}
		runs = longer
		for wait := 1; wait <= 2; wait++ {
			c := Config{Sender: sender.Config{Tries: wait, Wait: wait}, Tries: 2, Room: 70}
			for p := Waking; p <= Calling; p++ {
				for _, r := range runs {
					follow(t, c, hello(api.Crc), expanded(append(begins(p, wait), r...)))
				}
			}
		}
	}
}

// The beginnings are those of the phases.
func TestBegins(t *testing.T) {
	for wait := 1; wait <= 2; wait++ {
		for p := Waking; p <= Calling; p++ {
			c := Config{Sender: sender.Config{Tries: 2, Wait: wait}, Tries: 2, Room: 70}
			h := host(c, hello(api.Crc))
			for _, e := range begins(p, wait) {
				happen(h, e)
			}
			if p != Calling {
				h.Tick()
			}
			if h.Phase() != p {
				t.Errorf("phase %d, want %d", h.Phase(), p)
			}
		}
	}
}

// journey is the events of two images that are delivered.
func journey() []string {
	return []string{"\r\n=> ", tick, "C", tick, ack, tick, ack + "\r\n=> ", tick, right, tick, prompt, tick,
		nak, tick, ack, tick, ack, tick, "\r\n=> ", tick, fmt.Sprintf("sum 200 3 %x\r\n=> ", printed("xyz")), tick}
}

// P21.3, P21.4: a journey with a piece removed, added, replaced, exchanged or run together with the next one.
func TestNearJourneys(t *testing.T) {
	for _, c := range []Config{usual, small} {
		run := journey()
		more := slices.Repeat([]string{tick, tick, tick, prompt}, 4)
		try := func(events []string) {
			t.Helper()
			follow(t, c, two(), expanded(append(slices.Clone(events), more...)))
		}
		try(run)
		for i := range run {
			try(slices.Delete(slices.Clone(run), i, i+1))
			for _, p := range append(pieces(), many(301), can, eot, "x", "") {
				try(slices.Insert(slices.Clone(run), i, p))
				try(slices.Replace(slices.Clone(run), i, i+1, p))
			}
			if i > 0 {
				other := slices.Clone(run)
				other[i-1], other[i] = other[i], other[i-1]
				try(other)
			}
			for k := range run[i] {
				if run[i] != tick {
					try(slices.Replace(slices.Clone(run), i, i+1, run[i][:k], tick, run[i][k:]))
				}
			}
		}
	}
}

// by is the events of one answer of a board to what goes out: the right one, or one by chance.
func by(r *rand.Rand, h *Host, g cargo, board *target.Target) []string {
	out := h.Out()
	var told string
	if len(out) > 0 {
		told = string(board.Put(out...))
	}
	told += string(board.Tick())
	b := []byte(told)
	if len(b) > 0 && r.Intn(8) == 0 {
		switch k := r.Intn(len(b)); r.Intn(4) {
		case 0:
			b[k] ^= 1 << r.Intn(8)
		case 1:
			b = slices.Delete(b, k, k+1)
		case 2:
			b = slices.Insert(b, k, byte(r.Intn(256)))
		case 3:
			b = nil
		}
	}
	if r.Intn(30) == 0 {
		list := pieces()[1:10]
		b = append(b, list[r.Intn(len(list))]...)
	}
	var events []string
	for len(b) > 0 {
		k := r.Intn(len(b)) + 1
		events = append(events, string(b[:k]))
		b = b[k:]
	}
	return append(events, tick)
}

// somewhere is a cargo by chance.
func somewhere(r *rand.Rand) cargo {
	var g cargo
	addr := 0
	for i := range r.Intn(3) + 1 {
		n := []int{1, 5, 127, 128, 129, 300, 1024, 1025, 2500}[r.Intn(9)]
		b := make([]byte, n)
		r.Read(b)
		g = g.and("n"+strconv.Itoa(i), addr, string(b), api.Way(r.Intn(4)))
		addr += (n+127)/128*128 + r.Intn(100)
	}
	return g
}

// dialogues are some that wake a board, or do not.
func dialogues(t *testing.T) [][]dialog.Step {
	return [][]dialog.Step{nil, nil, nil,
		parsed(t, `a: send "\r"; expect "=> " go b, "\n" go a after 3 go c; c: try 2 go a; fail; b: send "\r"; expect "=> " go d after 5 go a; d: done;`),
		parsed(t, `send "\r"; done;`),
		parsed(t, `send "x"; expect "[>=]" go b after 9 go b; b: done;`),
	}
}

// P21.2 to P21.4: long runs by chance, with a board and noise, against the reading; and what is promised of any run.
func TestChance(t *testing.T) {
	r := rand.New(rand.NewSource(21))
	wakes := dialogues(t)
	brought := 0
	for range 1500 {
		g := somewhere(r)
		c := Config{Sender: sender.Config{Tries: r.Intn(5), Wait: r.Intn(6)}, Tries: r.Intn(4), Room: 40 + r.Intn(100), Wake: wakes[r.Intn(len(wakes))]}
		h, m, board := host(c, g), read(c, g), target.Of(c.Sender)
		var events []string
		for range 1500 {
			if over, _ := h.Done(); over {
				break
			}
			m.out = ""
			for _, e := range by(r, h, g, board) {
				happen(h, e)
				m.happen(e)
				events = append(events, e)
			}
			if stateOf(h) != m.state() {
				t.Fatalf("%q: %v, want %v", events, stateOf(h), m.state())
			}
		}
		follow(t, c, g, append(events, "more", tick))
		if over, _ := h.Done(); !over {
			t.Fatalf("it does not end: %.200q", events)
		}
		for _, e := range g.es[:h.Brought()] {
			if !slices.Contains(board.Replies(), target.Reply{Addr: e.Addr, Size: e.Size, Print: e.Print}) {
				t.Fatalf("%v was delivered, and its print not told", e)
			}
			brought++
		}
	}
	if brought < 500 {
		t.Errorf("%d were delivered", brought)
	}
}

// talk has a Host and a board talk, without noise, or with that of a function, which gets each piece that goes down.
func talk(h *Host, board *target.Target, noise func([]byte) []byte) int {
	for k := range 10000 {
		if over, _ := h.Done(); over {
			return k
		}
		h.Tick()
		if out := noise(h.Out()); len(out) > 0 {
			h.Put(board.Put(out...)...)
		}
		h.Put(board.Tick()...)
	}
	return -1
}

// P21.1 to P21.4: without noise all images are delivered and are in the board's memory, whatever the Way.
func TestWhole(t *testing.T) {
	r := rand.New(rand.NewSource(22))
	for k := range 300 {
		g := somewhere(r)
		if k < 4 {
			g = cargo{}.and("full", 0x1000, many(8192), api.Way(k)).and("boot", 0x3f80, many(128), api.Way(k))
		}
		h, board := host(usual, g), target.Of(usual.Sender)
		talk(h, board, func(b []byte) []byte { return b })
		if got := stateOf(h); got != (state{phase: Over, over: true, brought: len(g.es)}) {
			t.Fatalf("%v: %v", g.es, got)
		}
		for i, e := range g.es {
			if b, ok := board.Store.Read(e.Addr, e.Size); !ok || !bytes.Equal(b, g.images[i]) {
				t.Fatalf("%v is not there", e)
			}
		}
	}
	g := cargo{}.and("boot", 0x1000, many(128), api.Crc)
	if n := talk(host(usual, g), target.Of(usual.Sender), func(b []byte) []byte { return b }); n < 0 || n > 12 {
		t.Errorf("128 bytes took %d ticks", n)
	}
}

// P21.2, P21.3: all images are delivered if a block is altered fewer times than it is tried; if it is each time, none is, and nothing else is told.
func TestAltered(t *testing.T) {
	g := cargo{}.and("boot", 0x1000, many(300), api.Crc)
	for times := range 12 {
		left := times
		noise := func(b []byte) []byte {
			if len(b) > 100 && b[1] == 2 && left > 0 {
				left--
				b[50] ^= 4
			}
			return b
		}
		h, board := host(usual, g), target.Of(usual.Sender)
		talk(h, board, noise)
		want := state{phase: Over, over: true, brought: 1, failed: times / 3}
		if times >= 9 {
			want = state{phase: Over, over: true, err: api.ErrTries, failed: 3}
		}
		if got := stateOf(h); got != want {
			t.Errorf("%d times: %v, want %v", times, got, want)
		}
	}
	// One that is lost is sent again when the ticks have gone by.
	for times := range 9 {
		left := times
		noise := func(b []byte) []byte {
			if len(b) > 100 && b[1] == 2 && left > 0 {
				left--
				return nil
			}
			return b
		}
		h, board := host(usual, g), target.Of(usual.Sender)
		talk(h, board, noise)
		if got := stateOf(h); got.phase != Over || got.err != nil || got.brought != 1 {
			t.Errorf("lost %d times: %v", times, got)
		}
		if b, _ := board.Store.Read(0x1000, 300); string(b) != many(300) {
			t.Errorf("lost %d times: not there", times)
		}
	}
	// An alteration that the checksum does not show is shown by the print.
	g = cargo{}.and("boot", 0x1000, many(300), api.Check)
	for times := range 5 {
		left := times
		noise := func(b []byte) []byte {
			if len(b) > 100 && b[1] == 2 && left > 0 {
				left--
				b[50]++
				b[51]--
			}
			return b
		}
		h, board := host(usual, g), target.Of(usual.Sender)
		talk(h, board, noise)
		want := state{phase: Over, over: true, brought: 1, failed: times}
		if times >= 3 {
			want = state{phase: Over, over: true, err: api.ErrPrint, failed: 3}
		}
		if got := stateOf(h); got != want {
			t.Errorf("print, %d times: %v, want %v", times, got, want)
		}
	}
}

// P21.4, W2: it does not matter in which parts the bytes of a tick arrive.
func TestParts(t *testing.T) {
	r := rand.New(rand.NewSource(23))
	c := usual
	c.Room = 4096
	for range 300 {
		whole, parts := host(c, two()), host(c, two())
		for _, e := range journey() {
			if r.Intn(10) == 0 {
				e = pieces()[r.Intn(10)]
			}
			happen(whole, e)
			for e != tick && e != "" {
				k := r.Intn(len(e)) + 1
				happen(parts, e[:k])
				e = e[k:]
			}
			if e == tick {
				happen(parts, e)
			}
			if a, b := string(whole.Out()), string(parts.Out()); a != b || stateOf(whole) != stateOf(parts) {
				t.Fatalf("%q: %q and %q", e, a, b)
			}
		}
		a, s := whole.Heard()
		b, u := parts.Heard()
		if !bytes.Equal(a, b) || !slices.Equal(s, u) {
			t.Fatal("what was heard differs")
		}
	}
}

// W1: any bytes, in any parts, of any configuration.
func TestAnyBytes(t *testing.T) {
	const usually = "=> =>  C\x06\x06\x06\x15\x18\r\nsum 100 5 62c0214"
	r := rand.New(rand.NewSource(24))
	for range 1000 {
		var events []string
		for range r.Intn(60) {
			b := make([]byte, r.Intn(30))
			r.Read(b)
			for i := range b {
				if r.Intn(4) > 0 {
					b[i] = usually[r.Intn(len(usually))]
				}
			}
			events = append(events, string(b))
			for range r.Intn(3) {
				events = append(events, tick)
			}
		}
		c := Config{Sender: sender.Config{Tries: edges[r.Intn(len(edges))], Wait: edges[r.Intn(len(edges))]}, Tries: edges[r.Intn(len(edges))], Room: edges[r.Intn(len(edges))]}
		follow(t, c, hello(api.Way(r.Intn(4))), events)
	}
}

// spoil alters all bytes of an answer, up to its capacity.
func spoil(b []byte) {
	b = b[:cap(b)]
	for i := range b {
		b[i] ^= 0xff
	}
}

// W6: what a Host is made of, and what is put, is neither altered nor needed any more; what it returns is new memory.
func TestApart(t *testing.T) {
	c := usual
	c.Wake = Wake()
	for _, way := range []api.Way{api.Check, api.Crc, api.Large, api.Batch} {
		g := cargo{}.and("a", 0x100, many(1200), way).and("b", 0x800, "xyz", way)
		before := cargo{slices.Clone(g.es), [][]byte{bytes.Clone(g.images[0]), bytes.Clone(g.images[1])}}
		h := host(c, g)
		if !reflect.DeepEqual(g, before) || !reflect.DeepEqual(c.Wake, Wake()) {
			t.Fatal("an argument was altered")
		}
		for i := range g.es {
			g.es[i] = api.Entry{}
			spoil(g.images[i])
			g.images[i] = nil
		}
		for i := range c.Wake {
			clear(c.Wake[i].Arms)
			c.Wake[i] = dialog.Step{}
		}
		c.Wake = Wake()
		m, board := read(c, before), target.Of(c.Sender)
		for over := false; !over; over, _ = h.Done() {
			h.Tick()
			m.happen(tick)
			out := h.Out()
			if string(out) != m.out {
				t.Fatalf("%.60q goes out, want %.60q", out, m.out)
			}
			m.out = ""
			for _, told := range [][]byte{board.Put(out...), board.Tick()} {
				m.happen(string(told))
				room := append(told, "behind"...)
				h.Put(room[:len(told)]...)
				if string(room[len(told):]) != "behind" {
					t.Fatal("what stands behind the bytes that were put was altered")
				}
				spoil(room)
			}
			spoil(out)
			b, s := h.Heard()
			spoil(b)
			s = s[:cap(s)]
			for i := range s {
				s[i] = demux.Segment{Mode: 9, From: 9, Size: 9}
			}
		}
		b, s := h.Heard()
		if string(b) != m.heard || !slices.Equal(s, m.segments()) || stateOf(h) != m.state() || h.Brought() != 2 {
			t.Fatalf("Way %d: %v, want %v", way, stateOf(h), m.state())
		}
	}
}

// W2: Hosts have nothing to do with each other, also when they work at the same time.
func TestTwoHosts(t *testing.T) {
	var all sync.WaitGroup
	g := two()
	for k := range 16 {
		all.Go(func() {
			r := rand.New(rand.NewSource(int64(k / 2)))
			for range 40 {
				h, m := host(usual, g), read(usual, g)
				for _, e := range journey() {
					if r.Intn(6) == 0 {
						e = pieces()[r.Intn(10)]
					}
					happen(h, e)
					m.happen(e)
					if got := string(h.Out()); got != m.out || stateOf(h) != m.state() {
						t.Errorf("%.60q: %q, want %q", e, got, m.out)
						return
					}
					m.out = ""
				}
			}
		})
	}
	all.Wait()
}

// Nothing is kept that is not needed any more.
func TestKeepsNothing(t *testing.T) {
	for p := Waking; p <= Over; p++ {
		h := host(usual, hello(api.Crc))
		for _, s := range until(p) {
			happen(h, s.put)
			for range s.ticks {
				h.Tick()
			}
		}
		if h.Phase() != p {
			t.Fatalf("phase %d, want %d", h.Phase(), p)
		}
		waits := p == Settling || p == Asking || p == Closing || p == Calling
		if (h.carrier != nil) != (p == Sending) || (h.watch != nil) != waits || (len(h.parcels) == 0) != (p == Over) || (p != Waking) != reflect.DeepEqual(h.wake, play.Play{}) {
			t.Errorf("phase %d: something is kept", p)
		}
		h.Put(make([]byte, 301)...)
		if h.carrier != nil || h.watch != nil || h.parcels != nil || !reflect.DeepEqual(h.wake, play.Play{}) {
			t.Errorf("phase %d, and over: something is kept", p)
		}
	}
}

// A Host that Of did not make does not panic.
func TestZero(t *testing.T) {
	var h Host
	h.Tick()
	if got := stateOf(&h); got != (state{}) || len(h.Out()) != 0 {
		t.Errorf("%v", got)
	}
	h.Put()
	h.Tick()
	h.Put('x')
	h.Tick()
	if b, s := h.Heard(); len(b) != 0 || len(s) != 0 || h.Phase() != Over {
		t.Errorf("%q %v", b, s)
	}
}
