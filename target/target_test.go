package target

import (
	"bytes"
	"fmt"
	"math"
	"math/rand"
	"regexp"
	"slices"
	"strconv"
	"strings"
	"sync"
	"testing"

	"lifeline/api"
	"lifeline/batch"
	"lifeline/receiver"
	"lifeline/sender"
	"lifeline/store"
)

// size is how many bytes the memory has.
const size = 16384

// What the chapter has a Target tell, spelled out.
const (
	ask   = "\r\n=> "
	what  = "?\r\n=> "
	wrong = "!\r\n=> "
)

// Bytes of transfers, spelled out.
const (
	eot  = "\x04"
	ack  = "\x06"
	nak  = "\x15"
	can  = "\x18"
	stop = "\x18\x18"
)

// tick is not put, but has a tick go by.
const tick = "<tick>"

// The signatures of the chapter, to the letter.
var (
	_ Reply        = Reply{Addr: int(0), Size: int(0), Print: uint32(0)}
	_ *store.Store = Target{}.Store

	_ func(sender.Config) *Target   = Of
	_ func(*Target, ...byte) []byte = (*Target).Put
	_ func(*Target) []byte          = (*Target).Tick
	_ func(*Target) []Reply         = (*Target).Replies
	_ func(*Target) bool            = (*Target).Loads
	_ func(Reply) string            = Line
	_ func(api.Way, int) string     = Load
	_ func(int, int) string         = Ask
)

// usual is a configuration of which neither part is at a limit.
var usual = sender.Config{Tries: 3, Wait: 4}

// edges are ints about the limits of tries and ticks, and the least and the greatest.
var edges = []int{math.MinInt, -100, -1, 0, 1, 2, 8, 9, 10, 98, 99, 100, 1 << 40, math.MaxInt}

// numbers are ints about which the digits of a number, or its range, might go wrong.
var numbers = []int{0, 1, 9, 10, 15, 16, 17, 159, 160, 255, 256, 4095, 4096, 8192, 16255, 16256, 16257, 16383, 16384, 16385,
	0xabcdef, 0x1000000, 0x10000000, math.MaxInt32, math.MaxInt32 + 1, math.MaxUint32 - 1, math.MaxUint32}

// printed is the fingerprint of bytes in its closed form: each byte counts once in s, and in t once for itself and for each byte behind it.
func printed(b []byte) uint32 {
	var s, t uint64
	for i, c := range b {
		s += uint64(c)
		t += uint64(c)*uint64(len(b)-i) + 1
	}
	return uint32(t%65521)*65536 + uint32(s%65521)
}

// check is the sum of bytes, crc their CRC.
func check(data string) string {
	var s byte
	for i := range len(data) {
		s += data[i]
	}
	return string([]byte{s})
}

func crc(data string) string {
	var r uint16
	for i := range len(data) {
		r ^= uint16(data[i]) << 8
		for range 8 {
			out := r >> 15
			r <<= 1
			if out == 1 {
				r ^= 0x1021
			}
		}
	}
	return string([]byte{byte(r >> 8), byte(r)})
}

// padded is a text with Pads up to so many bytes.
func padded(text string, n int) string { return text + strings.Repeat("\x1a", n-len(text)) }

// zeros is a text with zero bytes up to so many bytes.
func zeros(text string, n int) string { return text + strings.Repeat("\x00", n-len(text)) }

// block is the encoding of a block of 128 or of 1024 bytes.
func block(number byte, data string, trailer func(string) string) string {
	lead := map[int]byte{128: 1, 1024: 2}[len(data)]
	return string([]byte{lead, number, ^number}) + data + trailer(data)
}

// short is that of a text in a block of 128 bytes with a CRC, sure that with a checksum.
func short(number byte, text string) string { return block(number, padded(text, 128), crc) }

func sure(number byte, text string) string { return block(number, padded(text, 128), check) }

// head is the description of a file, last the empty one.
func head(name string, n int) string {
	return block(0, zeros(name+"\x00"+strconv.Itoa(n)+" 0 0", 128), crc)
}

func last() string { return block(0, zeros("", 128), crc) }

// many is n bytes of which neighbours differ, and so do those that are 128 or 256 apart.
func many(n int) string {
	b := make([]byte, n)
	for i := range b {
		b[i] = byte(i*7 + i/128*5 + 33)
	}
	return string(b)
}

// put puts a text, or has a tick go by.
func put(x *Target, text string) string {
	if text == tick {
		return string(x.Tick())
	}
	return string(x.Put([]byte(text)...))
}

// woken is a Target that is awake.
func woken(t *testing.T, c sender.Config) *Target {
	t.Helper()
	x := Of(c)
	if got := put(x, "x"); got != ask {
		t.Fatalf("a byte wakes: %q", got)
	}
	return x
}

// says compares what is told.
func says(t *testing.T, name, got, want string) {
	t.Helper()
	if got != want {
		t.Fatalf("%.200s: %.200q, want %.200q", name, got, want)
	}
}

// holds compares the memory of a Target.
func holds(t *testing.T, name string, x *Target, want []byte) {
	t.Helper()
	got, ok := x.Store.Read(0, size)
	if !ok || len(want) != size {
		t.Fatalf("%.200s: no memory", name)
	}
	for i := range got {
		if got[i] != want[i] {
			t.Fatalf("%.200s: %#x at %#x, want %#x", name, got[i], i, want[i])
		}
	}
}

// memory is bytes at some addresses, and else zero ones.
func memory(parts map[int]string) []byte {
	all := make([]byte, size)
	for addr, text := range parts {
		copy(all[addr:], text)
	}
	return all
}

// is compares all that can be asked of a Target.
func is(t *testing.T, name string, x *Target, loads bool, replies []Reply, all []byte) {
	t.Helper()
	if x.Loads() != loads {
		t.Fatalf("%.200s: Loads = %t", name, !loads)
	}
	if got := x.Replies(); !slices.Equal(got, replies) {
		t.Fatalf("%.200s: Replies = %v, want %v", name, got, replies)
	}
	holds(t, name, x, all)
}

// P20.1: the lines, worked out by hand.
func TestLines(t *testing.T) {
	for _, c := range []struct{ got, want string }{
		{Line(Reply{}), "sum 0 0 0\r\n"},
		{Line(Reply{1, 2, 3}), "sum 1 2 3\r\n"},
		{Line(Reply{16, 255, 4096}), "sum 10 ff 1000\r\n"},
		{Line(Reply{0x1000, 3, 0x24d0126}), "sum 1000 3 24d0126\r\n"},
		{Line(Reply{0xabc, 0xdef, 0xfedcba98}), "sum abc def fedcba98\r\n"},
		{Line(Reply{4294967295, 4294967295, 4294967295}), "sum ffffffff ffffffff ffffffff\r\n"},
		{Line(Reply{2147483648, 2147483647, 2147483648}), "sum 80000000 7fffffff 80000000\r\n"},
		{Line(Reply{Addr: 10}), "sum a 0 0\r\n"},
		{Line(Reply{Size: 11}), "sum 0 b 0\r\n"},
		{Line(Reply{Print: 12}), "sum 0 0 c\r\n"},
		{Load(api.Check, 0), "load check 0\r"},
		{Load(api.Crc, 0x1000), "load crc 1000\r"},
		{Load(api.Large, 10), "load large a\r"},
		{Load(api.Batch, 0x3fff), "load batch 3fff\r"},
		{Load(api.Crc, 4294967295), "load crc ffffffff\r"},
		{Load(-1, 1), "load check 1\r"},
		{Load(-100, 2), "load check 2\r"},
		{Load(math.MinInt, 3), "load check 3\r"},
		{Load(4, 4), "load batch 4\r"},
		{Load(5, 5), "load batch 5\r"},
		{Load(1<<32, 6), "load batch 6\r"},
		{Load(math.MaxInt, 7), "load batch 7\r"},
		{Ask(0, 0), "sum 0 0\r"},
		{Ask(0x1000, 3), "sum 1000 3\r"},
		{Ask(3, 0x1000), "sum 3 1000\r"},
		{Ask(10, 0xabcdef), "sum a abcdef\r"},
		{Ask(4294967295, 4294967295), "sum ffffffff ffffffff\r"},
	} {
		if c.got != c.want {
			t.Errorf("%q, want %q", c.got, c.want)
		}
	}
	if Prompt != "=> " {
		t.Errorf("Prompt is %q", Prompt)
	}
}

// P20.1: every number at every place.
func TestNumbers(t *testing.T) {
	for _, a := range numbers {
		for w, word := range []string{"check", "crc", "large", "batch"} {
			says(t, "Load", Load(api.Way(w), a), fmt.Sprintf("load %s %x\r", word, a))
		}
		for _, b := range numbers {
			says(t, "Ask", Ask(a, b), fmt.Sprintf("sum %x %x\r", a, b))
			for _, p := range numbers {
				says(t, "Line", Line(Reply{a, b, uint32(p)}), fmt.Sprintf("sum %x %x %x\r\n", a, b, p))
			}
		}
	}
	for n := range 70000 {
		says(t, "Ask", Ask(n, n+1), fmt.Sprintf("sum %x %x\r", n, n+1))
	}
}

// P20.1: negative numbers, and those that are too great, do not panic.
func TestNegative(t *testing.T) {
	odd := []int{-1, -2, -16, math.MinInt32, math.MinInt32 - 1, -math.MaxUint32, -math.MaxUint32 - 1, math.MinInt + 1, math.MinInt, 1 << 32, math.MaxInt}
	for _, a := range append(odd, numbers...) {
		for _, b := range append(odd, numbers...) {
			Line(Reply{a, b, uint32(a)})
			Ask(a, b)
			Load(api.Way(b), a)
		}
	}
}

// P20.2: Of returns a Target that is asleep, whose Store is zero, that loads nothing and has no replies.
func TestOf(t *testing.T) {
	zero := make([]byte, size)
	for _, tries := range edges {
		for _, wait := range edges {
			x := Of(sender.Config{Tries: tries, Wait: wait})
			if x == nil || x.Store == nil {
				t.Fatal("no Target, or no Store")
			}
			is(t, "Of", x, false, nil, zero)
			says(t, "Tick", put(x, tick), "")
			says(t, "asleep", put(x, "x"), ask)
			is(t, "awake", x, false, nil, zero)
		}
	}
}

// P20.2: every byte wakes it, and is part of no line, CR neither; the bytes behind it are. Neither no byte nor a tick wakes it.
func TestWakes(t *testing.T) {
	for c := range 256 {
		x := Of(usual)
		says(t, "no byte", put(x, ""), "")
		says(t, "a tick", put(x, tick), "")
		says(t, "a byte", string(x.Put(byte(c))), ask)
		says(t, "the empty line", put(x, "\r"), ask)
		says(t, "a line", put(x, "sum 0 0\r"), "sum 0 0 0\r\n=> ")

		x = Of(usual)
		says(t, "at once", string(x.Put(append([]byte{byte(c)}, "sum 1 2\r"...)...)), ask+"sum 1 2 20000\r\n=> ")
		if got := x.Put(byte(c)); len(got) != 0 && c != '\r' {
			t.Errorf("%#x does not begin a line: %q", c, got)
		}
	}
	x := Of(usual)
	says(t, "CRs", put(x, "\r\r\r"), ask+ask+ask)
	x = Of(usual)
	says(t, "the beginning of a line", put(x, "s"), ask)
	says(t, "the rest of it", put(x, "um 0 0\r"), what)
	x = Of(usual)
	says(t, "a line that wakes", put(x, "sum 0 0\r"), ask+what)
	x = Of(usual)
	says(t, "a load that wakes", put(x, "load crc 0\r"), ask+what)
	is(t, "a load that wakes", x, false, nil, make([]byte, size))
}

// P20.2: the example of the chapter.
func TestExample(t *testing.T) {
	x := Of(usual)
	says(t, "x", put(x, "x"), ask)
	says(t, "sum 0 3", put(x, "sum 0 3\r"), "sum 0 3 30000\r\n=> ")
}

// P20.2: what is told of a line, and whether it is a reply, worked out by hand.
func TestExecute(t *testing.T) {
	for _, c := range []struct{ line, told string }{
		{"", ask},
		{"sum 0 0", "sum 0 0 0\r\n=> "},
		{"sum 0 1", "sum 0 1 10000\r\n=> "},
		{"sum 0 3", "sum 0 3 30000\r\n=> "},
		{"sum 3 0", "sum 3 0 0\r\n=> "},
		{"sum 64 1", "sum 64 1 620061\r\n=> "},
		{"sum 64 3", "sum 64 3 24d0126\r\n=> "},
		{"sum 65 2", "sum 65 2 12900c5\r\n=> "},
		{"sum 63 4", "sum 63 4 24e0126\r\n=> "},
		{"sum a 10", "sum a 10 100000\r\n=> "},
		{"sum 3fff 1", "sum 3fff 1 10000\r\n=> "},
		{"sum 4000 0", "sum 4000 0 0\r\n=> "},
		{"sum 1000 3000", "sum 1000 3000 30000000\r\n=> "},
		{"sum 3fff 2", what},
		{"sum 4000 1", what},
		{"sum 4001 0", what},
		{"sum 0 4001", what},
		{"sum 1 4000", what},
		{"sum ffffffff 1", what},
		{"sum 1 ffffffff", what},
		{"sum ffffffff ffffffff", what},
		{"sum 100000000 0", what},
		{"sum 0 100000000", what},
		{"sum 10000000000000000 0", what},
		{"sum 0 10000000000000000", what},
		{"sum 00 0", what},
		{"sum 0 00", what},
		{"sum 01 0", what},
		{"sum 0 01", what},
		{"sum A 0", what},
		{"sum 0 A", what},
		{"sum 1F 0", what},
		{"sum g 0", what},
		{"sum -1 0", what},
		{"sum 0 -1", what},
		{"sum -0 0", what},
		{"sum +1 0", what},
		{"sum 0x1 0", what},
		{"sum 0 0x1", what},
		{"sum 1_0 0", what},
		{"sum 1. 0", what},
		{"sum 0 1e+1", what},
		{"sum", what},
		{"sum ", what},
		{"sum  ", what},
		{"sum 0", what},
		{"sum 0 ", what},
		{"sum  0", what},
		{"sum  0 0", what},
		{"sum 0  0", what},
		{"sum 0 0 ", what},
		{" sum 0 0", what},
		{"sum 0 0 0", what},
		{"sum 0 3 30000", what},
		{"sum\t0 0", what},
		{"sum 0\t0", what},
		{"sum\n0 0", what},
		{"\nsum 0 0", what},
		{"sum 0 0\n", what},
		{"sum 0 0\x00", what},
		{"Sum 0 0", what},
		{"SUM 0 0", what},
		{"sums 0 0", what},
		{"su 0 0", what},
		{"sum0 0", what},
		{"sum 00", what},
		{"0 0", what},
		{" 0 0", what},
		{"load", what},
		{"load ", what},
		{"load crc", what},
		{"load crc ", what},
		{"load  0", what},
		{"load 0", what},
		{"load  crc 0", what},
		{"load crc  0", what},
		{"load crc 0 ", what},
		{" load crc 0", what},
		{"load crc 0 0", what},
		{"load crc 00", what},
		{"load crc 01", what},
		{"load crc A", what},
		{"load crc -1", what},
		{"load crc +1", what},
		{"load crc 0x0", what},
		{"load crc g", what},
		{"load crc 100000000", what},
		{"load crc 10000000000000000", what},
		{"load crc\t0", what},
		{"load crc 0\n", what},
		{"\nload crc 0", what},
		{"load Crc 0", what},
		{"load cr 0", what},
		{"load crcs 0", what},
		{"load  0", what},
		{"load 0 0", what},
		{"load 0 crc", what},
		{"load sum 0", what},
		{"Load crc 0", what},
		{"loads crc 0", what},
		{"loa crc 0", what},
		{"loadcrc 0", what},
		{"crc 0", what},
		{"sum crc 0", what},
		{" ", what},
		{"  ", what},
		{"\n", what},
		{"\x00", what},
		{"?", what},
		{"=> ", what},
		{"\x04", what},
		{"\x18\x18", what},
		{"\xff\xfe", what},
		{"boot", what},
	} {
		x := woken(t, usual)
		x.Store.Write(100, []byte("abc"))
		all := memory(map[int]string{100: "abc"})
		says(t, c.line, put(x, c.line), "")
		is(t, c.line, x, false, nil, all)
		says(t, c.line, put(x, "\r"), c.told)
		var replies []Reply
		if r, ok := strings.CutSuffix(c.told, "\r\n=> "); ok && strings.HasPrefix(r, "sum ") {
			replies = []Reply{reply(t, r)}
		}
		is(t, c.line, x, false, replies, all)
		says(t, c.line+": a tick", put(x, tick), "")
		says(t, c.line+" once more", put(x, c.line+"\r"), c.told)
		is(t, c.line, x, false, append(replies, replies...), all)
		says(t, c.line+": the empty line", put(x, "\r"), ask)
	}
}

// reply is the Reply of a line without its end.
func reply(t *testing.T, line string) Reply {
	t.Helper()
	var r Reply
	if n, err := fmt.Sscanf(line, "sum %x %x %x", &r.Addr, &r.Size, &r.Print); n != 3 || err != nil {
		t.Fatalf("%q: %v", line, err)
	}
	return r
}

// P20.2: lines in one Put tell one behind the other, and it does not matter in which parts they come.
func TestParts(t *testing.T) {
	text := "!sum 0 3\r\rsum 64 1\rboot\r\nsum 0 0\rsum 65 2\rsum 4000 1\r\rload crc\rsu"
	want := ask + "sum 0 3 30000\r\n=> " + ask + "sum 64 1 620061\r\n=> " + what + what + "sum 65 2 12900c5\r\n=> " + what + ask + what
	replies := []Reply{{0, 3, 0x30000}, {100, 1, 0x620061}, {101, 2, 0x12900c5}}
	try := func(parts ...string) {
		t.Helper()
		x := Of(usual)
		x.Store.Write(100, []byte("abc"))
		var got string
		for _, p := range parts {
			got += put(x, p)
		}
		says(t, "parts", got, want)
		is(t, "parts", x, false, replies, memory(map[int]string{100: "abc"}))
		says(t, "the rest", put(x, "m 3 0\r"), "sum 3 0 0\r\n=> ")
	}
	try(text)
	try(strings.Split(text, "")...)
	for i := range text {
		try(text[:i], tick, "", text[i:])
		for k := i; k < len(text); k += 3 {
			try(text[:i], text[i:k], tick, text[k:])
		}
	}
}

// P20.2: a line has up to 80 bytes, and those behind are lost; each line anew. None of those is kept, which no answer shows.
func TestLongLine(t *testing.T) {
	for _, n := range []int{1, 2, 21, 78, 79, 80, 81, 82, 127, 128, 160, 255, 256, 257, 1000, 70000} {
		for _, begin := range []string{"", "sum 0 0", "load crc 0", "sum 0 0 ", strings.Repeat("sum 0 0 ", 10), strings.Repeat(" ", 73) + "sum 0 0"} {
			line := begin + strings.Repeat("y", n)
			x := woken(t, usual)
			says(t, "a part", put(x, line), "")
			if len(x.line) != min(len(line), 80) || string(x.line) != line[:min(len(line), 80)] {
				t.Fatalf("%d bytes: %d are kept", len(line), len(x.line))
			}
			says(t, "the rest", put(x, "\r"), what)
			says(t, "the empty line", put(x, "\r"), ask)
			says(t, "at once", put(x, line+"\rsum 0 0\r"), what+"sum 0 0 0\r\n=> ")
			for i := range line {
				says(t, "one by one", put(x, line[i:i+1]), "")
				if i > 300 {
					break
				}
			}
			says(t, "one by one", put(x, "\r"), what)
			is(t, "long lines", x, false, []Reply{{}}, make([]byte, size))
			if len(x.line) != 0 || cap(x.line) != 0 {
				t.Error("a line that was executed is kept")
			}
		}
	}
}

// The lines that are no "any other line", but for the condition of the memory.
var (
	loadLine = regexp.MustCompile(`\Aload (check|crc|large|batch) (0|[1-9a-f][0-9a-f]{0,7})\z`)
	sumLine  = regexp.MustCompile(`\Asum (0|[1-9a-f][0-9a-f]{0,7}) (0|[1-9a-f][0-9a-f]{0,7})\z`)
)

// numberOf is the number of a text that a line matched.
func numberOf(text string) int {
	n, _ := strconv.ParseInt(text, 16, 64)
	return int(n)
}

// reading is the chapter read once more: what a Target should tell.
type reading struct {
	config  sender.Config
	awake   bool
	line    string
	all     []byte
	replies []Reply
	addr    int
	blocks  *receiver.Receiver
	file    *batch.Receiver
}

func read(c sender.Config) *reading { return &reading{config: c, all: make([]byte, size)} }

func (r *reading) loads() bool { return r.blocks != nil || r.file != nil }

// put is what should be told of a text, or of a tick.
func (r *reading) put(text string) string {
	if text == tick {
		return r.pass(func() []byte { return r.blocks.Tick() }, func() []byte { return r.file.Tick() })
	}
	told := ""
	for i := range len(text) {
		if r.loads() {
			rest := []byte(text[i:])
			return told + r.pass(func() []byte { return r.blocks.Put(rest...) }, func() []byte { return r.file.Put(rest...) })
		}
		told += r.one(text[i])
	}
	return told
}

// one is what should be told of a byte while nothing is being loaded.
func (r *reading) one(c byte) string {
	if !r.awake {
		r.awake = true
		return ask
	}
	if c != '\r' {
		r.line += string([]byte{c})
		return ""
	}
	line := r.line
	r.line = ""
	if line == "" {
		return ask
	}
	if m := loadLine.FindStringSubmatch(line); m != nil {
		r.addr = numberOf(m[2])
		switch m[1] {
		case "batch":
			r.file = batch.Take(r.config)
		case "check":
			r.blocks = receiver.Of(r.config, 1, false, true, 7)
		default:
			r.blocks = receiver.Of(r.config, 1, true, true, 7)
		}
		return ""
	}
	if m := sumLine.FindStringSubmatch(line); m != nil && numberOf(m[1])+numberOf(m[2]) <= size {
		addr, n := numberOf(m[1]), numberOf(m[2])
		p := printed(r.all[addr : addr+n])
		r.replies = append(r.replies, Reply{addr, n, p})
		return fmt.Sprintf("sum %x %x %x\r\n=> ", addr, n, p)
	}
	return what
}

// pass has the receiver do something, and is what should be told of it.
func (r *reading) pass(blocks, file func() []byte) string {
	var told, data []byte
	var over bool
	var err error
	switch {
	case r.blocks != nil:
		told = blocks()
		over, err = r.blocks.Done()
		data = r.blocks.Data()
	case r.file != nil:
		told = file()
		over, err = r.file.Done()
		data = r.file.Data()
	}
	if !over {
		return string(told)
	}
	r.blocks, r.file = nil, nil
	if err != nil || r.addr+len(data) > size {
		return string(told) + wrong
	}
	copy(r.all[r.addr:], data)
	return string(told) + ask
}

// follow has events happen to a Target and to the reading.
func follow(t *testing.T, c sender.Config, events []string) {
	t.Helper()
	x, r := Of(c), read(c)
	for i, e := range events {
		got, want := put(x, e), r.put(e)
		if got != want || x.Loads() != r.loads() {
			t.Fatalf("%.60q: %.60q, loads %t, want %.60q, %t", events[:i+1], got, x.Loads(), want, r.loads())
		}
	}
	is(t, fmt.Sprintf("%.60q", events), x, r.loads(), r.replies, r.all)
}

// P20.2: lines of which one byte is altered, lost or added, and lines that were cut off or run together, against regular expressions.
func TestNearLines(t *testing.T) {
	lines := []string{"load check 0", "load crc 1f", "load large 10", "load batch 3fff", "load crc ffffffff", "sum 0 0", "sum 10 3f", "sum 3fff 1", "sum 1 3fff", "sum ffffff 0"}
	var near []string
	for _, l := range lines {
		for i := range len(l) + 1 {
			near = append(near, l[:i], l[i:], l[:i]+l[min(i+1, len(l)):])
			for c := range 256 {
				one := string([]byte{byte(c)})
				near = append(near, l[:i]+one+l[i:], l[:i]+one+l[min(i+1, len(l)):])
			}
		}
		for _, o := range lines {
			near = append(near, l+o, l+" "+o)
		}
	}
	x, r := woken(t, usual), read(usual)
	r.awake = true
	for _, l := range near {
		got, want := put(x, l), r.put(l)
		got, want = got+put(x, "\r"), want+r.put("\r")
		if got != want || x.Loads() != r.loads() {
			t.Fatalf("%q: %q, loads %t, want %q, %t", l, got, x.Loads(), want, r.loads())
		}
		if x.Loads() { // a cancelled load leaves nothing behind
			says(t, l, put(x, stop), wrong)
			r.put(stop)
		}
	}
	is(t, "near lines", x, false, r.replies, r.all)
}

// P20.2: sums of all kinds of places, of what the memory has at this time; whoever has the Target may write to it, or give it another one.
func TestSums(t *testing.T) {
	x, r := woken(t, usual), read(usual)
	r.awake = true
	try := func(list []int) {
		for _, addr := range list {
			for _, n := range list {
				line := fmt.Sprintf("sum %x %x\r", addr, n)
				says(t, line, put(x, line), r.put(line))
			}
		}
		is(t, "sums", x, false, r.replies, r.all)
	}
	try([]int{0, 1, 2, 1 << 32, 1 << 40, math.MaxInt})
	r.all = []byte(many(size))
	x.Store.Write(0, r.all)
	try(append(numbers, 2, 3, 127, 128, 129, 8191, 8193))
	x.Store = new(store.Store)
	x.Store.Write(5, []byte("other"))
	r.all = memory(map[int]string{5: "other"})
	try([]int{0, 4, 5, 6, 10, 100, 16384})
	// A line is not executed ahead of its end.
	says(t, "the beginning", put(x, "sum 5 1"), "")
	x.Store.Write(5, []byte{0})
	says(t, "the end", put(x, "\r"), "sum 5 1 10000\r\n=> ")
}

// step is what is put, or a tick, and what should be told of it.
type step struct{ put, told string }

// story is what happens to a Target that is awake, and how it is then.
type story struct {
	steps   []step
	loads   bool
	replies []Reply
	parts   map[int]string // of the memory
}

// happens has stories happen, and holds the reading against them as well.
func happens(t *testing.T, c sender.Config, list []story) {
	t.Helper()
	for i, s := range list {
		x := woken(t, c)
		events := []string{"x"}
		for k, e := range s.steps {
			says(t, fmt.Sprintf("story %d, step %d, %.40q", i, k, e.put), put(x, e.put), e.told)
			events = append(events, e.put)
		}
		is(t, fmt.Sprintf("story %d", i), x, s.loads, s.replies, memory(s.parts))
		follow(t, c, events)
	}
}

// P20.2: "load", a word and a number begin a load without output, which asks by Nak for the word check, and else by C.
func TestBegins(t *testing.T) {
	for word, asks := range map[string]string{"check": nak, "crc": "C", "large": "C", "batch": "C"} {
		for _, addr := range []string{"0", "1", "9", "a", "10", "3fff", "4000", "4001", "abcdef12", "ffffffff"} {
			x := woken(t, usual)
			line := "load " + word + " " + addr
			says(t, line, put(x, line), "")
			is(t, line, x, false, nil, make([]byte, size))
			says(t, line, put(x, "\r"), "")
			is(t, line, x, true, nil, make([]byte, size))
			says(t, line+": no bytes", put(x, ""), "")
			says(t, line+": a tick", put(x, tick), asks)
			is(t, line, x, true, nil, make([]byte, size))
		}
	}
}

// P20.2: the lines that Load makes begin a load, those that Ask makes a reply, which Line tells.
func TestOwnLines(t *testing.T) {
	for w := api.Check; w <= api.Batch; w++ {
		for _, addr := range numbers {
			x := woken(t, usual)
			says(t, "Load", put(x, Load(w, addr)), "")
			is(t, "Load", x, true, nil, make([]byte, size))
		}
	}
	x := woken(t, usual)
	var replies []Reply
	for _, addr := range numbers {
		for _, n := range numbers {
			if addr+n > size {
				says(t, "Ask", put(x, Ask(addr, n)), what)
				continue
			}
			replies = append(replies, Reply{addr, n, uint32(n) << 16})
			says(t, "Ask", put(x, Ask(addr, n)), Line(replies[len(replies)-1])+Prompt)
		}
	}
	is(t, "Ask", x, false, replies, make([]byte, size))
}

// P20.3: a load of each word, from its beginning to its end: the data are written, and then it asks.
func TestLoads(t *testing.T) {
	long := many(1024 + 128 + 3)
	happens(t, usual, []story{
		{[]step{{"load check 1000\r", ""}, {tick, nak}, {sure(1, "abc"), ack}}, true, nil, nil},
		{[]step{{"load check 1000\r", ""}, {tick, nak}, {sure(1, "abc"), ack}, {eot, ack + ask}}, false, nil, map[int]string{0x1000: padded("abc", 128)}},
		{[]step{{"load crc 1\r", ""}, {tick, "C"}, {short(1, "abc"), ack}, {eot, ack + ask}}, false, nil, map[int]string{1: padded("abc", 128)}},
		{[]step{{"load large 80\r", ""}, {tick, "C"}, {block(1, long[:1024], crc), ack}, {short(2, long[1024:1152]), ack}, {short(3, long[1152:]), ack}, {eot, ack + ask}},
			false, nil, map[int]string{0x80: padded(long, 1280)}},
		{[]step{{"load crc 80\r", ""}, {block(1, long[:1024], crc), ack}, {eot, ack + ask}}, false, nil, map[int]string{0x80: long[:1024]}},
		{[]step{{"load check 80\r", ""}, {block(1, long[:1024], check), ack}, {eot, ack + ask}}, false, nil, map[int]string{0x80: long[:1024]}},
		{[]step{{"load batch 7\r", ""}, {tick, "C"}, {head("boot", 3), ack}, {tick, "C"}, {short(1, "abc"), ack}, {eot, ack}, {tick, "C"}, {last(), ack + ask}},
			false, nil, map[int]string{7: "abc"}},
		{[]step{{"load batch 7\r", ""}, {head("boot", 3), ack}, {short(1, "abc"), ack}, {eot, ack}}, true, nil, nil},
		{[]step{{"load batch 7\r", ""}, {head("boot", 1155), ack}, {block(1, long[:1024], crc), ack}, {short(2, long[1024:1152]), ack}, {short(3, long[1152:]), ack}, {eot, ack}, {last(), ack + ask}},
			false, nil, map[int]string{7: long}},
		{[]step{{"load batch 7\r", ""}, {head("boot", 0), ack}, {eot, ack}, {last(), ack + ask}}, false, nil, nil},
		{[]step{{"load crc 0\r", ""}, {eot, ack + ask}}, false, nil, nil},
		// A word decides how blocks are checked.
		{[]step{{"load check 0\r", ""}, {short(1, "abc"), nak}}, true, nil, nil},
		{[]step{{"load check 0\r", ""}, {short(1, "abc")[:132], nak}}, true, nil, nil},
		{[]step{{"load crc 0\r", ""}, {sure(1, "abc"), ""}}, true, nil, nil},
		{[]step{{"load large 0\r", ""}, {sure(1, "abc") + "x", nak}}, true, nil, nil},
		// Blocks are numbered from 1 on.
		{[]step{{"load crc 0\r", ""}, {short(0, "abc"), stop + wrong}}, false, nil, nil},
		{[]step{{"load crc 0\r", ""}, {short(2, "abc"), stop + wrong}}, false, nil, nil},
		{[]step{{"load check 0\r", ""}, {sure(0, "abc"), stop + wrong}}, false, nil, nil},
		{[]step{{"load large 0\r", ""}, {block(0, long[:1024], crc), stop + wrong}}, false, nil, nil},
		{[]step{{"load batch 0\r", ""}, {block(1, zeros("boot\x003 0 0", 128), crc), stop + wrong}}, false, nil, nil},
	})
}

// P20.3: all remaining bytes go to the receiver in one call, also those of the Put that begins the load; what it drops is lost.
func TestOneCall(t *testing.T) {
	one := short(1, "abc")
	happens(t, usual, []story{
		{[]step{{"load crc 0\r" + one, ack}, {eot, ack + ask}}, false, nil, map[int]string{0: padded("abc", 128)}},
		{[]step{{"load check 0\r" + sure(1, "abc"), ack}, {eot, ack + ask}}, false, nil, map[int]string{0: padded("abc", 128)}},
		{[]step{{"sum 0 1\r\rboot\rload crc 0\r" + one, "sum 0 1 10000\r\n=> " + ask + what + ack}, {eot, ack + ask}}, false, []Reply{{0, 1, 65536}}, map[int]string{0: padded("abc", 128)}},
		// An Eot behind the block is lost with the bytes that the receiver drops.
		{[]step{{"load crc 0\r" + one + eot, ack}}, true, nil, nil},
		{[]step{{"load crc 0\r", ""}, {one + eot, ack}, {eot, ack + ask}}, false, nil, map[int]string{0: padded("abc", 128)}},
		{[]step{{"load crc 0\r", ""}, {one + short(2, "def"), ack}, {short(2, "def"), ack}, {eot, ack + ask}}, false, nil, map[int]string{0: padded("abc", 128) + padded("def", 128)}},
		// Bytes that are none of a block have one answer.
		{[]step{{"load crc 0\r" + "xyz", nak}}, true, nil, nil},
		{[]step{{"load crc 0\r", ""}, {"xyz", nak}, {"x", nak}}, true, nil, nil},
		{[]step{{"load batch 0\r" + "xyz", nak}}, true, nil, nil},
		// No line is read.
		{[]step{{"load crc 0\rsum 0 3\r", nak}, {"sum 0 3\r", nak}, {"\r", nak}, {"\r\r", nak}}, true, nil, nil},
		{[]step{{"load crc 0\rload crc 7\r", nak}, {one, ack}, {eot, ack + ask}}, false, nil, map[int]string{0: padded("abc", 128)}},
		// What comes behind the end in one go is not read either.
		{[]step{{"load crc 0\r", ""}, {eot + "sum 0 3\r", ack + ask}, {"\r", ask}}, false, nil, nil},
		{[]step{{"load crc 0\r" + eot + "sum 0 3\rsu", ack + ask}, {"sum 0 3\r", "sum 0 3 30000\r\n=> "}}, false, []Reply{{0, 3, 0x30000}}, nil},
		{[]step{{"load crc 0\r" + eot + "load crc 0\r" + eot, ack + ask}}, false, nil, nil},
		{[]step{{"load crc 0\r" + stop + "\r", wrong}, {"\r", ask}}, false, nil, nil},
		// Parts of a block and of a cancellation wait for the rest.
		{[]step{{"load crc 0\r" + one[:1], ""}, {one[1:70], ""}, {one[70:132], ""}, {one[132:], ack}, {eot, ack + ask}}, false, nil, map[int]string{0: padded("abc", 128)}},
		{[]step{{"load crc 0\r" + can, ""}, {can, wrong}}, false, nil, nil},
		{[]step{{"load crc 0\r", ""}, {can, ""}, {can + "x", wrong}}, false, nil, nil},
		{[]step{{"load crc 0\r", ""}, {can, ""}, {"x", nak}}, true, nil, nil},
	})
}

// P20.3: Tick is that of the receiver, and none else; a receiver that has no tries left ends the load.
func TestTicks(t *testing.T) {
	happens(t, sender.Config{Tries: 2, Wait: 3}, []story{
		{[]step{{tick, ""}, {tick, ""}, {tick, ""}, {tick, ""}}, false, nil, nil},
		{[]step{{"load crc 0\r", ""}, {tick, "C"}, {tick, ""}, {tick, ""}, {tick, "C"}, {tick, ""}, {tick, ""}}, true, nil, nil},
		{[]step{{"load crc 0\r", ""}, {tick, "C"}, {tick, ""}, {tick, ""}, {tick, "C"}, {tick, ""}, {tick, ""}, {tick, stop + wrong}, {tick, ""}, {tick, ""}, {tick, ""}, {"\r", ask}}, false, nil, nil},
		{[]step{{"load check 0\r", ""}, {tick, nak}, {tick, ""}, {tick, ""}, {tick, nak}, {tick, ""}, {tick, ""}, {tick, stop + wrong}, {tick, ""}}, false, nil, nil},
		{[]step{{"load batch 0\r", ""}, {tick, "C"}, {tick, ""}, {tick, ""}, {tick, "C"}, {tick, ""}, {tick, ""}, {tick, stop + wrong}, {tick, ""}}, false, nil, nil},
		{[]step{{"load crc 0\r", ""}, {tick, "C"}, {short(1, "a"), ack}, {tick, ""}, {tick, ""}, {tick, nak}, {tick, ""}, {tick, ""}, {tick, nak}, {tick, ""}, {tick, ""}, {tick, nak}}, true, nil, nil},
		// A tick has the bytes that wait dropped.
		{[]step{{"load crc 0\r", ""}, {short(1, "a")[:50], ""}, {tick, ""}, {tick, ""}, {tick, "C"}, {short(1, "a"), ack}, {eot, ack + ask}}, false, nil, map[int]string{0: padded("a", 128)}},
		// A load that ended so leaves the tries of the next one alone.
		{[]step{{"load crc 0\r" + stop, wrong}, {"load crc 0\r", ""}, {tick, "C"}, {tick, ""}, {tick, ""}, {tick, "C"}, {tick, ""}, {tick, ""}, {tick, stop + wrong}}, false, nil, nil},
	})
	happens(t, sender.Config{Tries: 1, Wait: 1}, []story{
		{[]step{{"load crc 0\r", ""}, {tick, "C"}, {tick, stop + wrong}}, false, nil, nil},
	})
}

// P20.2: the configuration is that of the receivers, whatever it is.
func TestConfig(t *testing.T) {
	for _, tries := range edges {
		for _, wait := range edges {
			c := sender.Config{Tries: tries, Wait: wait}
			for _, word := range []string{"check", "crc", "large", "batch"} {
				x := woken(t, c)
				put(x, "load "+word+" 0\r")
				asked, ticks := 0, 0
				for x.Loads() && ticks < 2000 {
					if got := put(x, tick); got == "C" || got == nak {
						asked++
					}
					ticks++
				}
				most, long := min(max(tries, 1), 9), min(max(wait, 1), 99)
				if asked != most || ticks != 1+most*long {
					t.Fatalf("%v, %s: asked %d times in %d ticks", c, word, asked, ticks)
				}
			}
		}
	}
}

// P20.3: a load that goes wrong writes nothing, whatever was received.
func TestWrong(t *testing.T) {
	one := short(1, "abc")
	happens(t, usual, []story{
		{[]step{{"load crc 0\r", ""}, {one, ack}, {stop, wrong}}, false, nil, nil},
		{[]step{{"load crc 0\r", ""}, {stop, wrong}, {"\r", ask}}, false, nil, nil},
		{[]step{{"load crc 0\r", ""}, {one, ack}, {short(3, "abc"), stop + wrong}}, false, nil, nil},
		{[]step{{"load crc 0\r", ""}, {one, ack}, {one, ack}, {eot, ack + ask}}, false, nil, map[int]string{0: padded("abc", 128)}},
		{[]step{{"load check 0\r", ""}, {sure(1, "abc"), ack}, {stop, wrong}}, false, nil, nil},
		{[]step{{"load batch 0\r", ""}, {head("boot", 3), ack}, {stop, wrong}}, false, nil, nil},
		{[]step{{"load batch 0\r", ""}, {head("boot", 3), ack}, {one, ack}, {stop, wrong}}, false, nil, nil},
		{[]step{{"load batch 0\r", ""}, {head("boot", 3), ack}, {one, ack}, {eot, ack}, {stop, wrong}}, false, nil, nil},
		{[]step{{"load batch 0\r", ""}, {head("boot", 3), ack}, {one, ack}, {eot, ack}, {head("b", 3), ack + wrong}}, false, nil, nil},
		{[]step{{"load batch 0\r", ""}, {head("boot", 129), ack}, {one, ack}, {eot, ack + wrong}}, false, nil, nil},
		{[]step{{"load batch 0\r", ""}, {head("1boot", 3), ack + wrong}}, false, nil, nil},
		{[]step{{"load batch 0\r", ""}, {last(), ack + wrong}}, false, nil, nil},
		{[]step{{"load batch 0\r", ""}, {head("boot", 3), ack}, {one, ack}, {eot, ack}, {tick, "C"}, {tick, ""}, {tick, ""}, {tick, ""}, {tick, "C"}}, true, nil, nil},
	})
	// An error of each part leaves what was there.
	x := woken(t, usual)
	x.Store.Write(0, []byte(many(size)))
	for _, events := range [][]string{
		{"load crc 0\r", one, stop},
		{"load batch 0\r", head("boot", 3), one, eot, head("b", 1)},
		{"load crc 3f81\r", one, eot},
	} {
		for _, e := range events {
			put(x, e)
		}
		is(t, events[0], x, false, nil, []byte(many(size)))
	}
}

// P20.3: data that do not fit at the address are not written, not even in part; those that do, at both ends of the memory.
func TestFits(t *testing.T) {
	one, all := short(1, many(128)), many(128)
	var full []step
	for k := range 16 {
		full = append(full, step{block(byte(k+1), many(size)[k*1024:k*1024+1024], crc), ack})
	}
	load := func(line string) []step { return append([]step{{line, ""}}, full...) }
	happens(t, usual, []story{
		{[]step{{"load crc 3f80\r", ""}, {one, ack}, {eot, ack + ask}}, false, nil, map[int]string{0x3f80: all}},
		{[]step{{"load crc 3f81\r", ""}, {one, ack}, {eot, ack + wrong}}, false, nil, nil},
		{[]step{{"load check 3f81\r", ""}, {sure(1, all), ack}, {eot, ack + wrong}}, false, nil, nil},
		{[]step{{"load large 3f81\r", ""}, {one, ack}, {eot, ack + wrong}}, false, nil, nil},
		{[]step{{"load crc 3fff\r", ""}, {one, ack}, {eot, ack + wrong}}, false, nil, nil},
		{[]step{{"load crc 4000\r", ""}, {one, ack}, {eot, ack + wrong}}, false, nil, nil},
		{[]step{{"load crc ffffffff\r", ""}, {one, ack}, {eot, ack + wrong}}, false, nil, nil},
		{[]step{{"load crc ffffff80\r", ""}, {one, ack}, {eot, ack + wrong}}, false, nil, nil},
		{[]step{{"load crc 4000\r", ""}, {eot, ack + ask}}, false, nil, nil},
		{[]step{{"load crc 4001\r", ""}, {eot, ack + wrong}}, false, nil, nil},
		{[]step{{"load crc ffffffff\r", ""}, {eot, ack + wrong}}, false, nil, nil},
		{append(load("load large 0\r"), step{eot, ack + ask}), false, nil, map[int]string{0: many(size)}},
		{append(load("load large 1\r"), step{eot, ack + wrong}), false, nil, nil},
		{append(load("load large 0\r"), step{short(17, "abc"), ack}, step{eot, ack + wrong}), false, nil, nil},
		// Of a batch only the bytes of the file need to fit.
		{[]step{{"load batch 3fff\r", ""}, {head("boot", 1), ack}, {one, ack}, {eot, ack}, {last(), ack + ask}}, false, nil, map[int]string{0x3fff: all[:1]}},
		{[]step{{"load batch 3fff\r", ""}, {head("boot", 2), ack}, {one, ack}, {eot, ack}, {last(), ack + wrong}}, false, nil, nil},
		{[]step{{"load batch 4000\r", ""}, {head("boot", 0), ack}, {eot, ack}, {last(), ack + ask}}, false, nil, nil},
		{[]step{{"load batch 4001\r", ""}, {head("boot", 0), ack}, {eot, ack}, {last(), ack + wrong}}, false, nil, nil},
	})
}

// P20.3: loads and lines one behind the other: each has its own address and data, later ones are written over earlier ones, and the replies stay.
func TestInTurn(t *testing.T) {
	abc, def := padded("abc", 128), padded("def", 128)
	first := Reply{0, 3, printed([]byte("abc"))}
	second := Reply{2, 130, printed([]byte((abc + def)[2:132]))}
	happens(t, usual, []story{
		{[]step{
			{"load crc 0\r", ""}, {short(1, "abc"), ack}, {eot, ack + ask},
			{"sum 0 3\r", Line(first) + Prompt},
			{"load check 80\r", ""}, {sure(1, "def"), ack}, {eot, ack + ask},
			{"sum 2 82\r", Line(second) + Prompt},
			{"load crc 0\r" + stop, wrong},
			{"load batch 1\r", ""}, {head("b", 1), ack}, {short(1, "Z"), ack}, {eot, ack}, {last(), ack + ask},
			{"load crc 4000\r" + short(1, "x"), ack}, {eot, ack + wrong},
			{"sum 0 3\r", Line(Reply{0, 3, printed([]byte("aZc"))}) + Prompt},
			{"load crc 7\r", ""},
		}, true, []Reply{first, second, {0, 3, printed([]byte("aZc"))}}, map[int]string{0: "aZc" + abc[3:] + def}},
		// The line ahead of a load is no part of the one behind it.
		{[]step{{"load crc 0\r" + eot, ack + ask}, {"\r", ask}, {"sum 0 0\r", "sum 0 0 0\r\n=> "}}, false, []Reply{{}}, nil},
		{[]step{{"load crc 0\r" + stop, wrong}, {"\r", ask}, {"load crc 9\r" + short(1, "abc"), ack}, {eot, ack + ask}}, false, nil, map[int]string{9: abc}},
	})
}

// P20.3: the data are written to the Store that the Target has when the load ends.
func TestOtherStore(t *testing.T) {
	x := woken(t, usual)
	old := x.Store
	put(x, "load crc 10\r"+short(1, "abc"))
	x.Store = new(store.Store)
	x.Store.Write(0, []byte("kept"))
	says(t, "the end", put(x, eot), ack+ask)
	is(t, "the end", x, false, nil, memory(map[int]string{0: "kept", 16: padded("abc", 128)}))
	if b, _ := old.Read(0, size); !bytes.Equal(b, make([]byte, size)) {
		t.Error("the former Store was written to")
	}
}

// pieces are what small runs are made of.
func pieces() []string {
	return []string{tick, "x", "\r", "\r\r", "sum 0 83\r", "load crc 2\r", "load check 3f80\r", "load large 3f81\r", "load batch 3\r",
		short(1, "abc"), sure(1, "def"), short(2, "ghi"), head("boot", 3), last(), eot, can, stop, short(1, "abc")[:60]}
}

// P20.2, P20.3: every run of up to three pieces, asleep, awake, in one go and while something is being loaded, against the reading.
func TestAllSmall(t *testing.T) {
	c := sender.Config{Tries: 1, Wait: 2}
	list := pieces()
	runs := [][]string{{}}
	for range 3 {
		var longer [][]string
		for _, r := range runs {
			for _, p := range list {
				longer = append(longer, append(slices.Clone(r), p))
			}
		}
		for _, r := range longer {
			follow(t, c, r)
			follow(t, c, append([]string{"x"}, r...))
			follow(t, c, []string{"x" + strings.ReplaceAll(strings.Join(r, ""), tick, "")})
		}
		runs = longer
	}
	for _, begin := range []string{"xload crc 2\r", "xload check 3f80\r", "xload large 3f81\r", "xload batch 3\r", "xload batch 3\r" + head("boot", 3), "xload crc 0\r" + short(1, "abc")} {
		for _, r := range runs {
			follow(t, c, append([]string{begin}, r...))
		}
	}
}

// transfers are whole runs, one of each word.
func transfers() [][]string {
	return [][]string{
		{"x", "load check 80\r", tick, sure(1, "abc"), sure(2, "def"), eot, "sum 80 100\r"},
		{"x", "load crc 80\r", tick, short(1, "abc"), short(2, "def"), eot, "sum 80 100\r"},
		{"x", "load large 3b00\r", tick, block(1, many(1024), crc), short(2, "ghi"), eot, "sum 3b00 480\r"},
		{"x", "load batch 3fc0\r", tick, head("boot", 64), tick, short(1, many(100)), eot, tick, last(), "sum 3fc0 40\r"},
	}
}

// P20.3: whole transfers with a piece removed, added, replaced or exchanged with the next one, and with two parts run together.
func TestNearTransfers(t *testing.T) {
	for _, c := range []sender.Config{usual, {Tries: 1, Wait: 1}} {
		for _, run := range transfers() {
			follow(t, c, run)
			for i := range run {
				follow(t, c, slices.Delete(slices.Clone(run), i, i+1))
				for _, p := range pieces() {
					follow(t, c, slices.Insert(slices.Clone(run), i, p))
					follow(t, c, slices.Replace(slices.Clone(run), i, i+1, p))
				}
				if i > 0 {
					other := slices.Clone(run)
					other[i-1], other[i] = other[i], other[i-1]
					follow(t, c, other)
					if other[i-1] != tick && other[i] != tick {
						follow(t, c, slices.Replace(slices.Clone(run), i-1, i+1, run[i-1]+run[i]))
					}
				}
			}
		}
	}
}

// events are a run by chance, of the pieces of whole transfers, of altered ones, and of lines.
func events(r *rand.Rand) []string {
	list := pieces()
	for _, run := range transfers() {
		list = append(list, run...)
	}
	var es []string
	for range r.Intn(5) + 1 {
		run := slices.Clone(transfers()[r.Intn(4)])
		for i, e := range run {
			if b := []byte(e); e != tick && r.Intn(9) == 0 {
				b[r.Intn(len(b))] ^= 1 << r.Intn(8)
				run[i] = string(b)
			}
		}
		es = append(es, run...)
		for range r.Intn(4) {
			es = slices.Insert(es, r.Intn(len(es)), list[r.Intn(len(list))])
		}
		if r.Intn(3) == 0 {
			line := fmt.Sprintf("sum %x %x\r", r.Intn(size), r.Intn(size/2))
			es = append(es, line[:r.Intn(len(line))], line)
		}
	}
	return es
}

// cut is the events in other parts: some are divided, some run together.
func cut(r *rand.Rand, es []string) []string {
	var parts []string
	for _, e := range es {
		switch k := r.Intn(6); {
		case e == tick || k > 1:
			parts = append(parts, e)
		case k == 0:
			at := r.Intn(len(e) + 1)
			parts = append(parts, e[:at], e[at:])
		case len(parts) > 0 && parts[len(parts)-1] != tick:
			parts[len(parts)-1] += e
		}
	}
	return parts
}

// P20.2, P20.3: long runs by chance against the reading.
func TestChance(t *testing.T) {
	r := rand.New(rand.NewSource(20))
	for range 2000 {
		c := sender.Config{Tries: r.Intn(12) - 1, Wait: r.Intn(6) - 1}
		es := events(r)
		follow(t, c, es)
		follow(t, c, cut(r, es))
	}
}

// W1: any bytes, in any parts.
func TestAnyBytes(t *testing.T) {
	const usually = "\r\r\r  0123456789abcdefsumloadcrchecklargebatch\x01\x02\x04\x18"
	r := rand.New(rand.NewSource(21))
	for range 1000 {
		var es []string
		for range r.Intn(20) {
			b := make([]byte, r.Intn(200))
			r.Read(b)
			for i := range b {
				if r.Intn(3) > 0 {
					b[i] = usually[r.Intn(len(usually))]
				}
			}
			es = append(es, string(b))
			if r.Intn(4) == 0 {
				es = append(es, tick, "load crc 0\r", string(b))
			}
		}
		follow(t, usual, es)
	}
}

// W1: much in one Put, and much that is received.
func TestMuch(t *testing.T) {
	x := Of(usual)
	n := 20000
	got := put(x, strings.Repeat("sum 0 1\r", n+1)) // the first byte wakes it
	if want := ask + what + strings.Repeat("sum 0 1 10000\r\n=> ", n); got != want {
		t.Fatalf("%d bytes, want %d", len(got), len(want))
	}
	if list := x.Replies(); len(list) != n {
		t.Fatalf("%d replies", len(list))
	}
	put(x, "load large 0\r")
	for k := range 1000 {
		says(t, "a block", put(x, block(byte(k+1), many(1024), crc)), ack)
	}
	says(t, "the end", put(x, eot), ack+wrong)
	holds(t, "the end", x, make([]byte, size))
}

// spoil alters all bytes of an answer, up to its capacity.
func spoil(b []byte) {
	b = b[:cap(b)]
	for i := range b {
		b[i] ^= 0xff
	}
}

// W6: bytes that are put are neither altered nor kept, nor are those behind them; what is told is new memory.
func TestApart(t *testing.T) {
	for _, run := range transfers() {
		x, r := Of(usual), read(usual)
		for _, e := range run {
			for at := range len(e) {
				if e == tick {
					got := x.Tick()
					says(t, e, string(got), r.put(e))
					spoil(got)
					break
				}
				if strings.HasSuffix(e, "\r") || at == 0 {
					room := []byte(e[at:] + "behind")
					n := len(e) - at
					if strings.HasSuffix(e, "\r") {
						n = 1
					}
					before := string(room)
					got := x.Put(room[:n]...)
					if string(room) != before {
						t.Fatalf("%q was altered", before)
					}
					spoil(room)
					after := string(room)
					says(t, e, string(got), r.put(before[:n]))
					spoil(got)
					if string(room) != after {
						t.Fatalf("what is told of %q shares memory with it", before)
					}
				}
			}
		}
		is(t, run[1], x, false, r.replies, r.all)
	}
}

// W6: a block that comes in parts is kept apart from the bytes that were put, and so are the data that are written.
func TestPartsApart(t *testing.T) {
	x := woken(t, usual)
	put(x, "load crc 0\r")
	one := []byte(short(1, "abc"))
	for i := 0; i < len(one); i += 19 {
		part := one[i:min(i+19, len(one))]
		spoil(x.Put(part...))
		clear(part)
	}
	says(t, "the end", put(x, eot), ack+ask)
	holds(t, "the end", x, memory(map[int]string{0: padded("abc", 128)}))
}

// W6: Replies is a new list each time; later replies do not get into earlier lists.
func TestRepliesApart(t *testing.T) {
	x := woken(t, usual)
	var want []Reply
	var lists [][]Reply
	for k := range 20 {
		put(x, Ask(k, k+1))
		want = append(want, Reply{k, k + 1, uint32(k+1) << 16})
		lists = append(lists, x.Replies())
		spoiled := x.Replies()
		spoiled = spoiled[:cap(spoiled)]
		for i := range spoiled {
			spoiled[i] = Reply{-1, -1, 1}
		}
		_ = append(x.Replies(), Reply{-2, -2, 2})
	}
	for k, l := range lists {
		if !slices.Equal(l, want[:k+1]) {
			t.Fatalf("the list of %d replies: %v", k+1, l)
		}
	}
}

// W2: Targets have nothing to do with each other, also when they work at the same time.
func TestTwoTargets(t *testing.T) {
	x, y := woken(t, usual), woken(t, usual)
	if x.Store == y.Store {
		t.Fatal("two Targets have one Store")
	}
	put(x, "load crc 0\r")
	says(t, "the other one", put(y, "su"), "")
	put(x, short(1, "abc"))
	says(t, "the other one", put(y, "m 0 1\r"), "sum 0 1 10000\r\n=> ")
	put(x, eot)
	is(t, "one", x, false, nil, memory(map[int]string{0: padded("abc", 128)}))
	is(t, "the other one", y, false, []Reply{{0, 1, 65536}}, make([]byte, size))

	var all sync.WaitGroup
	for k := range 16 {
		all.Go(func() {
			r := rand.New(rand.NewSource(int64(k / 2)))
			for range 30 {
				x, m := Of(usual), read(usual)
				for _, e := range events(r) {
					if got, want := put(x, e), m.put(e); got != want {
						t.Errorf("%.60q: %q, want %q", e, got, want)
						return
					}
				}
			}
		})
	}
	all.Wait()
}

// Nothing is kept of a load that has ended.
func TestKeepsNothing(t *testing.T) {
	for _, run := range transfers() {
		x := Of(usual)
		for _, e := range run {
			put(x, e)
		}
		if x.load != nil || x.line != nil {
			t.Errorf("%q: something is kept", run[1])
		}
	}
}

// A Target that Of did not make, or whose Store was taken away, does not panic: it has a zero Store.
func TestZero(t *testing.T) {
	for _, run := range append(transfers(), []string{"x", "sum 0 3\r", tick}, []string{"", tick, "\r\r", "boot\r"}) {
		var x Target
		if x.Loads() || len(x.Replies()) != 0 {
			t.Fatal("the zero Target loads, or has replies")
		}
		y := Of(usual)
		r := read(sender.Config{})
		for _, e := range run {
			says(t, e, put(&x, e), r.put(e))
			y.Store = nil
			put(y, e)
		}
		if x.Store != nil {
			is(t, run[1], &x, false, r.replies, r.all)
		}
	}
}
