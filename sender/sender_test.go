package sender

import (
	"bytes"
	"math"
	"math/rand"
	"slices"
	"strconv"
	"testing"

	"lifeline/api"
)

// The signatures of the chapter, to the letter.
var (
	_ func(Config, []api.Block, bool, bool) *Sender = Of
	_ func(*Sender, byte) []byte                    = (*Sender).Put
	_ func(*Sender) []byte                          = (*Sender).Tick
	_ func(*Sender) (bool, error)                   = (*Sender).Done
	_ func(*Sender) int                             = (*Sender).Sent
	_                                               = Config{Tries: 1, Wait: 1}
)

// both are the two values of a switch.
var both = []bool{false, true}

// never is what the error of a Sender is compared with that is not over.
const never = api.Errno(-1)

// dataOf is so many bytes that differ from block to block.
func dataOf(size, seed int) []byte {
	data := make([]byte, size)
	for i := range data {
		data[i] = byte(i*7 + i/256*3 + seed*31 + 1)
	}
	return data
}

// blocksOf is blocks of these sizes; their numbers are such as nobody would count.
func blocksOf(sizes ...int) []api.Block {
	var list []api.Block
	for k, size := range sizes {
		list = append(list, api.Block{Number: byte(k*77 + 200), Data: dataOf(size, k)})
	}
	return list
}

// shorts is so many blocks of 128 bytes.
func shorts(n int) []api.Block { return blocksOf(slices.Repeat([]int{128}, n)...) }

// added is the sum of bytes modulo 256, in integers.
func added(b []byte) byte {
	total := 0
	for _, c := range b {
		total += int(c)
	}
	return byte(total % 256)
}

// divided is the CRC of bytes: what is left of their bits, and sixteen zeros behind them, divided by x^16 + x^12 + x^5 + 1.
func divided(b []byte) int {
	rest := 0
	for i := range len(b)*8 + 16 {
		bit := 0
		if i < len(b)*8 {
			bit = int(b[i/8]) >> (7 - i%8) & 1
		}
		rest = rest*2 + bit
		if rest >= 1<<16 {
			rest ^= 1<<16 + 1<<12 + 1<<5 + 1
		}
	}
	return rest
}

// encoded is what layer 4 says that the encoding of a block is; nil if it has none.
func encoded(b api.Block, crc bool) []byte {
	list := []byte{1, b.Number, 255 - b.Number}
	switch len(b.Data) {
	case 128:
	case 1024:
		list[0] = 2
	default:
		return nil
	}
	list = append(list, b.Data...)
	if !crc {
		return append(list, added(b.Data))
	}
	rest := divided(b.Data)
	return append(list, byte(rest/256), byte(rest%256))
}

// is compares all that can be asked of a Sender; err is never if it should not be over.
func is(t *testing.T, name string, s *Sender, err error, sent int) {
	t.Helper()
	over, got := s.Done()
	want := err
	if err == never {
		want = nil
	}
	if over != (err != never) || got != want {
		t.Fatalf("%s: Done = %v, %v, want %v", name, over, got, err)
	}
	if s.Sent() != sent {
		t.Fatalf("%s: Sent = %d, want %d", name, s.Sent(), sent)
	}
}

// sends compares bytes that are sent.
func sends(t *testing.T, name string, got, want []byte) {
	t.Helper()
	if !bytes.Equal(got, want) {
		t.Fatalf("%s: sent %d bytes % x, want %d bytes % x", name, len(got), got[:min(8, len(got))], len(want), want[:min(8, len(want))])
	}
}

// events are what the letters of a run stand for; t is a tick.
var events = map[byte]byte{'N': 21, 'A': 6, 'C': 'C', 'X': 24, '.': 'x', 'E': 4}

// do has an event of a run happen.
func do(s *Sender, event byte) []byte {
	if event == 't' {
		return s.Tick()
	}
	return s.Put(events[event])
}

// answer is what a letter of the answers of a run stands for: - for nothing, E for Eot, X for two Cans, 1 to 9 for a block.
func answer(letter byte, blocks []api.Block, crc bool) []byte {
	switch letter {
	case '-':
		return nil
	case 'E':
		return []byte{4}
	case 'X':
		return []byte{24, 24}
	}
	return encoded(blocks[letter-'1'], crc)
}

// run is what happens to a Sender, what it sends each time, and how it is in the end.
type run struct {
	tries, wait int
	blocks      int
	may, close  bool // whether CRCs may be used, whether there is an end
	does        bool // whether CRCs are used
	events      string
	answers     string
	err         error
	sent        int
}

// check has the run happen.
func (r run) check(t *testing.T) {
	t.Helper()
	blocks := shorts(r.blocks)
	s := Of(Config{Tries: r.tries, Wait: r.wait}, blocks, r.may, r.close)
	is(t, r.events, s, never, 0)
	if len(r.events) != len(r.answers) {
		t.Fatalf("%s: %d events, %d answers", r.events, len(r.events), len(r.answers))
	}
	for i := range len(r.events) {
		got := do(s, r.events[i])
		sends(t, r.events[:i+1], got, answer(r.answers[i], blocks, r.does))
	}
	is(t, r.events, s, r.err, r.sent)
}

// runs has runs happen.
func runs(t *testing.T, list []run) {
	t.Helper()
	for _, r := range list {
		r.check(t)
	}
}

// limit is a number limited to a range, as the chapter's first words say.
func limit(n, most int) int {
	switch {
	case n < 1:
		return 1
	case n > most:
		return most
	}
	return n
}

// The chapter's example: without blocks and with close, C is answered by Eot, and Ack ends it.
func TestExample(t *testing.T) {
	runs(t, []run{{3, 3, 0, true, true, true, "CA", "E-", nil, 0}})
}

// P10.1: a new Sender is at the beginning, with no block acknowledged; its first try is 1, and it waits Wait ticks. Tries and Wait are limited.
func TestOf(t *testing.T) {
	numbers := []int{math.MinInt, -100, -1, 0, 1, 2, 3, 8, 9, 10, 11, 98, 99, 100, 101, 1000, math.MaxInt}
	for _, tries := range numbers {
		for _, wait := range numbers {
			for k := range 8 {
				s := Of(Config{Tries: tries, Wait: wait}, shorts(k/4), k%2 == 1, k/2%2 == 1)
				name := strconv.Itoa(tries) + " tries, " + strconv.Itoa(wait) + " ticks"
				is(t, name, s, never, 0)
				for range limit(tries, 9)*limit(wait, 99) - 1 {
					sends(t, name, s.Tick(), nil)
					is(t, name, s, never, 0)
				}
				sends(t, name, s.Tick(), []byte{24, 24})
				is(t, name, s, api.ErrTries, 0)
			}
		}
	}
}

// P10.1: nothing is sent of itself, and nothing is looked at: a block that has no encoding is no fault of Of.
func TestOfAnyBlocks(t *testing.T) {
	for _, blocks := range [][]api.Block{nil, {}, {{}}, {{Number: 9}}, shorts(2), blocksOf(5), blocksOf(128, 0), blocksOf(1024, 1025)} {
		for k := range 4 {
			s := Of(Config{Tries: 2, Wait: 2}, blocks, k%2 == 1, k/2 == 1)
			if s == nil {
				t.Fatal("Of returns nil")
			}
			is(t, "a new one", s, never, 0)
			sends(t, "a tick", s.Tick(), nil)
			is(t, "a new one", s, never, 0)
		}
	}
}

// P10.2: at the beginning Nak has it proceed with checksums, and Go with CRCs if it may use them; no other byte has an effect, but two Cans.
func TestBeginning(t *testing.T) {
	for _, may := range both {
		for _, close := range both {
			for c := range 256 {
				s := Of(Config{Tries: 1, Wait: 1}, shorts(1), may, close)
				var want []byte
				switch {
				case c == 21:
					want = encoded(shorts(1)[0], false)
				case c == 'C' && may:
					want = encoded(shorts(1)[0], true)
				}
				name := "byte " + strconv.Itoa(c)
				sends(t, name, s.Put(byte(c)), want)
				is(t, name, s, never, 0)
				if want == nil {
					sends(t, name+", Nak", s.Put(21), encoded(shorts(1)[0], false))
				}
			}
		}
	}
}

// P10.2: what began it tells the trailers of all blocks, also of those that are sent again.
func TestTrailers(t *testing.T) {
	blocks := blocksOf(128, 1024, 128)
	for _, may := range both {
		for _, crc := range both {
			if crc && !may {
				continue
			}
			s := Of(Config{Tries: 3, Wait: 2}, blocks, may, false)
			start := byte(21)
			if crc {
				start = 'C'
			}
			for k, b := range blocks {
				if k == 0 {
					sends(t, "first", s.Put(start), encoded(b, crc))
				} else {
					sends(t, "next", s.Put(6), encoded(b, crc))
				}
				sends(t, "Go", s.Put('C'), nil)
				sends(t, "again", s.Put(21), encoded(b, crc))
				sends(t, "tick", s.Tick(), nil)
				sends(t, "ticks", s.Tick(), encoded(b, crc))
				is(t, "again", s, never, k)
			}
			sends(t, "last", s.Put(6), nil)
			is(t, "last", s, nil, 3)
		}
	}
}

// P10.2: the encoding by hand: a block of zero bytes with the number 5, with a checksum and with a CRC.
func TestEncoding(t *testing.T) {
	block := api.Block{Number: 5, Data: make([]byte, 128)}
	want := append([]byte{1, 5, 250}, make([]byte, 129)...)
	s := Of(Config{}, []api.Block{block}, true, false)
	sends(t, "checksum", s.Put(21), want)
	s = Of(Config{}, []api.Block{block}, true, false)
	sends(t, "CRC", s.Put('C'), append(want, 0))
	block.Data[0] = 200
	block.Data[127] = 100
	want[3], want[130], want[131] = 200, 100, 44
	s = Of(Config{}, []api.Block{block}, true, false)
	sends(t, "checksum", s.Put(21), want)
}

// P10.2: each byte in the phase of a block: Ack acknowledges it, Nak has it sent again, no other has an effect.
func TestInBlock(t *testing.T) {
	for _, crc := range both {
		for c := range 256 {
			blocks := shorts(2)
			s := Of(Config{Tries: 2, Wait: 9}, blocks, true, true)
			start := map[bool]byte{false: 21, true: 'C'}[crc]
			sends(t, "start", s.Put(start), encoded(blocks[0], crc))
			var want []byte
			sent := 0
			switch c {
			case 6:
				want = encoded(blocks[1], crc)
				sent = 1
			case 21:
				want = encoded(blocks[0], crc)
			}
			name := "byte " + strconv.Itoa(c)
			sends(t, name, s.Put(byte(c)), want)
			is(t, name, s, never, sent)
		}
	}
}

// P10.2: each byte in the phase of the end: Ack ends it and acknowledges no block, Nak has Eot sent again, no other has an effect.
func TestAtEnd(t *testing.T) {
	for _, blocks := range []int{0, 1, 2} {
		for c := range 256 {
			s := Of(Config{Tries: 2, Wait: 9}, shorts(blocks), true, true)
			s.Put('C')
			for range blocks {
				s.Put(6)
			}
			is(t, "the end", s, never, blocks)
			var want []byte
			err := error(never)
			switch c {
			case 6:
				err = nil
			case 21:
				want = []byte{4}
			}
			name := "byte " + strconv.Itoa(c)
			sends(t, name, s.Put(byte(c)), want)
			is(t, name, s, err, blocks)
		}
	}
}

// P10.2: to proceed, worked out by hand.
func TestProceed(t *testing.T) {
	runs(t, []run{
		{3, 3, 0, true, true, true, "CA", "E-", nil, 0},
		{3, 3, 0, true, false, true, "C", "-", nil, 0},
		{3, 3, 0, true, false, true, "N", "-", nil, 0},
		{3, 3, 0, false, false, false, "CN", "--", nil, 0},
		{3, 3, 0, false, true, false, "CNA", "-E-", nil, 0},
		{3, 3, 1, true, false, true, "CA", "1-", nil, 1},
		{3, 3, 1, true, true, true, "CA", "1E", never, 1},
		{3, 3, 1, true, true, true, "CAA", "1E-", nil, 1},
		{3, 3, 2, true, true, false, "NAAA", "12E-", nil, 2},
		{3, 3, 2, false, false, false, "NAA", "12-", nil, 2},
		{3, 3, 3, true, false, true, "CAAA", "123-", nil, 3},
		{3, 3, 3, true, true, true, ".AEC..A.A..AA", "---1--2-3--E-", nil, 3},
		{3, 3, 2, true, true, false, "ANCACAC.A", "-1-2-E---", nil, 2},
	})
}

// P10.2: the bytes behind the last one have no effect, nor have ticks.
func TestOver(t *testing.T) {
	for _, r := range []run{
		{2, 2, 1, true, true, true, "CAA", "1E-", nil, 1},
		{2, 2, 1, true, false, true, "CA", "1-", nil, 1},
		{2, 2, 0, true, false, true, "C", "-", nil, 0},
		{2, 2, 1, true, true, true, "XX", "--", api.ErrCancel, 0},
		{2, 2, 2, true, true, true, "CAXX", "12--", api.ErrCancel, 1},
		{2, 1, 2, true, true, true, "tt", "-X", api.ErrTries, 0},
		{2, 2, 2, true, true, true, "CANN", "122X", api.ErrTries, 1},
	} {
		r.check(t)
		r.events += "NACXXX.ttttNNNAAAXXCCtE"
		for len(r.answers) < len(r.events) {
			r.answers += "-"
		}
		r.check(t)
	}
}

// P10.2: two Cans one behind the other cancel, in each phase, also if ticks pass between them; with another byte between they do not.
func TestCancel(t *testing.T) {
	runs(t, []run{
		{9, 9, 2, true, true, true, "X", "-", never, 0},
		{9, 9, 2, true, true, true, "XX", "--", api.ErrCancel, 0},
		{9, 9, 2, true, true, true, "X.X", "---", never, 0},
		{9, 9, 2, true, true, true, "X.XX", "----", api.ErrCancel, 0},
		{9, 9, 2, true, true, true, "XtX", "---", api.ErrCancel, 0},
		{9, 9, 2, true, true, true, "XttttttttttX", "------------", api.ErrCancel, 0},
		{9, 9, 2, true, true, true, "XAXEX", "-----", never, 0},
		{9, 9, 2, true, true, true, "XCX", "-1-", never, 0},
		{9, 9, 2, true, true, true, "XCXX", "-1--", api.ErrCancel, 0},
		{9, 9, 2, true, true, false, "XNX", "-1-", never, 0},
		{9, 9, 2, true, true, true, "CXX", "1--", api.ErrCancel, 0},
		{9, 9, 2, true, true, true, "CXAXNXCXA", "1-2-2---E", never, 2},
		{9, 9, 2, true, true, true, "CAAXX", "12E--", api.ErrCancel, 2},
		{9, 9, 2, true, true, true, "CAAXAX", "12E---", nil, 2},
		{9, 9, 2, true, true, true, "CAAXtX", "12E---", api.ErrCancel, 2},
		{9, 1, 2, true, true, true, "CXtX", "1-1-", api.ErrCancel, 0},
		{9, 1, 2, true, true, true, "CAAXtX", "12E-E-", api.ErrCancel, 2},
		{1, 1, 2, true, true, true, "CXtX", "1-X-", api.ErrTries, 0},
		{9, 9, 0, false, false, false, "XX", "--", api.ErrCancel, 0},
		{9, 9, 1, false, false, false, "XCXX", "----", api.ErrCancel, 0},
	})
}

// P10.2: to repeat, worked out by hand: the last try is answered by two Cans; to proceed begins with the first try again.
func TestRepeat(t *testing.T) {
	runs(t, []run{
		{1, 9, 2, true, true, true, "CN", "1X", api.ErrTries, 0},
		{1, 9, 2, true, true, true, "CAN", "12X", api.ErrTries, 1},
		{1, 9, 2, true, true, true, "CAAN", "12EX", api.ErrTries, 2},
		{2, 9, 2, true, true, true, "CNN", "11X", api.ErrTries, 0},
		{2, 9, 2, true, true, true, "CNANANN", "1122EEX", api.ErrTries, 2},
		{2, 9, 2, true, true, true, "CNANANA", "1122EE-", nil, 2},
		{3, 9, 2, true, true, false, "NNNANNAN.N.N", "111222EE-E-X", api.ErrTries, 2},
		{0, 9, 1, true, true, true, "CN", "1X", api.ErrTries, 0},
		{-7, 9, 1, true, true, true, "CN", "1X", api.ErrTries, 0},
		{9, 9, 1, true, true, true, "CNNNNNNNNN", "111111111X", api.ErrTries, 0},
		{10, 9, 1, true, true, true, "CNNNNNNNNN", "111111111X", api.ErrTries, 0},
		{math.MaxInt, 9, 1, true, true, true, "CNNNNNNNNN", "111111111X", api.ErrTries, 0},
		{2, 1, 1, true, true, true, "tCNN", "-11X", api.ErrTries, 0},
		{2, 1, 1, true, true, false, "tNNN", "-11X", api.ErrTries, 0},
	})
}

// P10.3: ticks, worked out by hand: they begin anew when it proceeds and when it repeats, not at a byte without effect.
func TestTick(t *testing.T) {
	runs(t, []run{
		{1, 1, 1, true, true, true, "t", "X", api.ErrTries, 0},
		{1, 3, 1, true, true, true, "ttt", "--X", api.ErrTries, 0},
		{2, 3, 1, true, true, true, "tttttt", "-----X", api.ErrTries, 0},
		{2, 3, 1, true, true, true, "ttCttttttt", "--1--1--X-", api.ErrTries, 0},
		{2, 3, 1, true, true, false, "tttttNttt", "-----1--1", never, 0},
		{2, 3, 1, true, true, true, "Ct.t.t", "1----1", never, 0},
		{2, 3, 1, true, true, true, "CtCtXt", "1----1", never, 0},
		{2, 3, 1, true, true, true, "CttNttt", "1--1--X", api.ErrTries, 0},
		{2, 3, 2, true, true, true, "CttAttt", "1--2--2", never, 1},
		{2, 3, 1, true, true, true, "CttAttttttt", "1--E--E--X-", api.ErrTries, 1},
		{2, 3, 1, true, true, true, "CAttNtttA", "1E--E--X-", api.ErrTries, 1},
		{2, 3, 1, true, true, true, "CAtttttA", "1E--E---", nil, 1},
		{3, 1, 1, true, true, true, "CtNt", "111X", api.ErrTries, 0},
		{3, 0, 1, true, true, true, "Cttt", "111X", api.ErrTries, 0},
		{3, -1, 1, true, true, true, "Cttt", "111X", api.ErrTries, 0},
	})
}

// P10.3: of the longest wait, in each phase; a greater number is limited to it.
func TestLongestWait(t *testing.T) {
	for _, wait := range []int{98, 99, 100, 1 << 40} {
		for phase := range 3 {
			blocks := shorts(1)
			s := Of(Config{Tries: 2, Wait: wait}, blocks, true, true)
			belongs := [][]byte{nil, encoded(blocks[0], true), {4}}[phase]
			for k := range phase {
				s.Put([]byte{'C', 6}[k])
			}
			for _, want := range [][]byte{belongs, {24, 24}} {
				for range limit(wait, 99) - 1 {
					sends(t, "ahead of the last tick", s.Tick(), nil)
				}
				sends(t, "the last tick", s.Tick(), want)
			}
			is(t, "the last tick", s, api.ErrTries, phase/2)
		}
	}
}

// A block that has no encoding ends it when it is to be sent: nothing is sent, and those ahead of it count as acknowledged.
func TestNoEncoding(t *testing.T) {
	for _, size := range []int{0, 1, 127, 129, 256, 1023, 1025, 2048} {
		for at := range 3 {
			for k := range 8 {
				sizes := []int{128, 1024, 128}
				sizes[at] = size
				blocks := blocksOf(sizes...)
				crc := k%2 == 1
				start := map[bool]byte{false: 21, true: 'C'}[crc]
				s := Of(Config{Tries: 1 + k/4, Wait: 9}, blocks, true, k/2%2 == 1)
				for i := range at {
					sends(t, "a block", s.Put([]byte{start, 6, 6}[i]), encoded(blocks[i], crc))
					is(t, "a block", s, never, i)
				}
				name := strconv.Itoa(size) + " bytes in block " + strconv.Itoa(at)
				sends(t, name, s.Put([]byte{start, 6, 6}[at]), nil)
				is(t, name, s, api.ErrArgument, at)
				for _, event := range "NACXXt" {
					sends(t, name, do(s, byte(event)), nil)
				}
				is(t, name, s, api.ErrArgument, at)
			}
		}
	}
	s := Of(Config{}, []api.Block{{Number: 1, Data: nil}}, false, false)
	sends(t, "Go, without CRCs", s.Put('C'), nil)
	is(t, "Go, without CRCs", s, never, 0)
	sends(t, "no data", s.Put(21), nil)
	is(t, "no data", s, api.ErrArgument, 0)
}

// A block that has no encoding does nothing as long as it is not to be sent.
func TestNoEncodingNotSent(t *testing.T) {
	s := Of(Config{Tries: 1, Wait: 1}, blocksOf(128, 5), true, true)
	s.Put('C')
	sends(t, "a tick", s.Tick(), []byte{24, 24})
	is(t, "a tick", s, api.ErrTries, 0)
	s = Of(Config{Tries: 9, Wait: 1}, blocksOf(5), true, true)
	for range 8 {
		sends(t, "a tick at the beginning", s.Tick(), nil)
		is(t, "a tick at the beginning", s, never, 0)
	}
	s.Put(24)
	s.Put(24)
	is(t, "cancelled", s, api.ErrCancel, 0)
}

// P10.1: many blocks, each acknowledged at once or at its last try, with numbers that go round.
func TestMany(t *testing.T) {
	for _, tries := range []int{1, 2, 9} {
		blocks := blocksOf(slices.Repeat([]int{128, 1024, 128}, 200)...)
		for i := range blocks {
			blocks[i].Number = byte(i + 1)
		}
		s := Of(Config{Tries: tries, Wait: 2}, blocks, true, true)
		start := byte('C')
		for k, b := range blocks {
			want := encoded(b, true)
			sends(t, "a block", s.Put(start), want)
			for try := range tries - 1 {
				if try%2 == 0 {
					sends(t, "again", s.Put(21), want)
					continue
				}
				sends(t, "a tick", s.Tick(), nil)
				sends(t, "again", s.Tick(), want)
			}
			is(t, "a block", s, never, k)
			start = 6
		}
		sends(t, "the end", s.Put(6), []byte{4})
		is(t, "the end", s, never, 600)
		sends(t, "behind the end", s.Put(6), nil)
		is(t, "behind the end", s, nil, 600)
	}
}

// model is the chapter read another way: a list of what belongs to each phase, made as soon as it begins, and a place in it; the tries and ticks that are left are one count of ticks.
type model struct {
	blocks []api.Block
	may    bool
	close  bool
	tries  int
	wait   int
	list   [][]byte
	place  int
	left   int // ticks that are left until two Cans, if nothing but ticks happens
	before []byte
	err    error
}

// modelOf is the model of a new Sender.
func modelOf(c Config, blocks []api.Block, may, close bool) *model {
	m := &model{blocks: blocks, may: may, close: close, tries: limit(c.Tries, 9), wait: limit(c.Wait, 99), err: never}
	m.list = [][]byte{nil}
	m.left = m.tries * m.wait
	return m
}

// begins makes the list.
func (m *model) begins(crc bool) {
	for _, b := range m.blocks {
		m.list = append(m.list, encoded(b, crc))
	}
	if m.close {
		m.list = append(m.list, []byte{4})
	}
}

// next goes to the next phase.
func (m *model) next() []byte {
	m.place++
	m.left = m.tries * m.wait
	if m.place == len(m.list) {
		m.err = nil
		return nil
	}
	if m.list[m.place] == nil {
		m.err = api.ErrArgument
	}
	return m.list[m.place]
}

// again is what is sent when the count of ticks is at a whole number of waits.
func (m *model) again() []byte {
	if m.left == 0 {
		m.err = api.ErrTries
		return []byte{24, 24}
	}
	return m.list[m.place]
}

// tick has a tick go by.
func (m *model) tick() []byte {
	if m.err != never {
		return nil
	}
	m.left--
	if m.left%m.wait > 0 {
		return nil
	}
	return m.again()
}

// put takes a byte.
func (m *model) put(c byte) []byte {
	if m.err != never {
		return nil
	}
	m.before = append(m.before, c)
	switch {
	case bytes.HasSuffix(m.before, []byte{24, 24}):
		m.err = api.ErrCancel
		return nil
	case m.place == 0 && (c == 21 || c == 'C' && m.may):
		m.begins(c == 'C')
		return m.next()
	case m.place > 0 && c == 6:
		return m.next()
	case m.place > 0 && c == 21:
		m.left = (m.left - 1) / m.wait * m.wait
		return m.again()
	}
	return nil
}

// acknowledged is how many blocks were.
func (m *model) acknowledged() int { return min(max(m.place-1, 0), len(m.blocks)) }

// same has an event happen to both, and compares all that can be asked.
func same(t *testing.T, name string, s *Sender, m *model, tick bool, c byte) {
	t.Helper()
	if tick {
		sends(t, name, s.Tick(), m.tick())
	} else {
		sends(t, name, s.Put(c), m.put(c))
	}
	is(t, name, s, m.err, m.acknowledged())
}

// words are all words of the letters of a given length.
func words(letters string, length int) []string {
	list := []string{""}
	for range length {
		var longer []string
		for _, w := range list {
			for _, c := range letters {
				longer = append(longer, w+string(c))
			}
		}
		list = longer
	}
	return list
}

// P10.2, P10.3: every run of five events, for all small Senders, against the model.
func TestAllSmall(t *testing.T) {
	all := words("NACXt.", 5)
	for _, blocks := range [][]api.Block{nil, shorts(1), shorts(2), blocksOf(128, 7), blocksOf(0, 128)} {
		for k := range 24 {
			c := Config{Tries: 1 + k/4%3, Wait: 1 + k/12}
			for _, w := range all {
				s := Of(c, blocks, k%2 == 1, k/2%2 == 1)
				m := modelOf(c, blocks, k%2 == 1, k/2%2 == 1)
				for i := range len(w) {
					same(t, w[:i+1], s, m, w[i] == 't', events[w[i]])
				}
			}
		}
	}
}

// chance is a run by chance: mostly of bytes that have an effect, and of ticks.
func chance(t *testing.T, r *rand.Rand) {
	sizes := make([]int, r.Intn(6))
	for i := range sizes {
		sizes[i] = []int{128, 128, 128, 1024}[r.Intn(4)]
		if r.Intn(20) == 0 {
			sizes[i] = r.Intn(1100)
		}
	}
	blocks := blocksOf(sizes...)
	c := Config{Tries: r.Intn(12) - 1, Wait: r.Intn(8) - 1}
	may, close := r.Intn(2) == 1, r.Intn(2) == 1
	s, m := Of(c, blocks, may, close), modelOf(c, blocks, may, close)
	likely := "ttNNAC.X"
	for range 60 {
		event := likely[r.Intn(len(likely))]
		b := events[event]
		if event == '.' {
			b = byte(r.Intn(256))
		}
		same(t, "by chance", s, m, event == 't', b)
	}
}

// P10.2, P10.3: long runs by chance against the model.
func TestChance(t *testing.T) {
	r := rand.New(rand.NewSource(10))
	for range 20000 {
		chance(t, r)
	}
}

// W6: the blocks are neither modified nor retained: what is done to them later does nothing, neither to a block nor to the list.
func TestBlocksNotRetained(t *testing.T) {
	blocks := blocksOf(128, 1024, 128)
	kept := blocksOf(128, 1024, 128)
	s := Of(Config{Tries: 9, Wait: 1}, blocks, true, true)
	spoil := func() {
		for i := range blocks {
			blocks[i].Number += 3
			for k := range blocks[i].Data {
				blocks[i].Data[k] ^= 85
			}
		}
		blocks[0], blocks[2] = blocks[2], api.Block{}
	}
	spoil()
	for k, c := range []byte{'C', 6, 6} {
		sends(t, "spoiled", s.Put(c), encoded(kept[k], true))
		spoil()
		sends(t, "spoiled, again", s.Put(21), encoded(kept[k], true))
		sends(t, "spoiled, a tick", s.Tick(), encoded(kept[k], true))
	}
}

// W6: nothing is written to the blocks, nor behind them.
func TestBlocksNotModified(t *testing.T) {
	room := blocksOf(128, 1024, 128, 128)
	for i := range room {
		room[i].Data = append(room[i].Data, 1, 2, 3)[:len(room[i].Data)]
	}
	s := Of(Config{Tries: 2, Wait: 1}, room[:3], true, true)
	for _, event := range "CttNAtANAtA" {
		do(s, byte(event))
	}
	want := blocksOf(128, 1024, 128, 128)
	for i, b := range room {
		if b.Number != want[i].Number || !bytes.Equal(b.Data, want[i].Data) {
			t.Errorf("block %d was modified", i)
		}
		if more := b.Data[:len(b.Data)+3][len(b.Data):]; !bytes.Equal(more, []byte{1, 2, 3}) {
			t.Errorf("behind the data of block %d: %v", i, more)
		}
	}
}

// W6: what is sent is new each time: whoever gets it may write to it, and behind it.
func TestAnswersApart(t *testing.T) {
	spoil := func(b []byte) {
		b = b[:cap(b)]
		for i := range b {
			b[i] = 99
		}
	}
	blocks := shorts(2)
	s := Of(Config{Tries: 4, Wait: 1}, blocks, true, true)
	for k, c := range []byte{'C', 6} {
		want := encoded(blocks[k], true)
		for i := range 4 {
			var got []byte
			switch {
			case i == 0:
				got = s.Put(c)
			case i == 1:
				got = s.Put(21)
			default:
				got = s.Tick()
			}
			sends(t, "a block", got, want)
			spoil(got)
		}
	}
	end := s.Put(6)
	sends(t, "the end", end, []byte{4})
	spoil(end)
	for range 3 {
		end = s.Tick()
		sends(t, "the end again", end, []byte{4})
		spoil(end)
	}
	cans := s.Tick()
	sends(t, "two Cans", cans, []byte{24, 24})
	spoil(cans)
	other := Of(Config{Tries: 1, Wait: 1}, nil, true, true)
	sends(t, "two Cans of another", other.Tick(), []byte{24, 24})
}

// W2: two Senders of the same blocks know nothing of each other, whatever the order of their calls.
func TestTwo(t *testing.T) {
	blocks := blocksOf(128, 1024)
	a := Of(Config{Tries: 2, Wait: 2}, blocks, true, true)
	b := Of(Config{Tries: 3, Wait: 1}, blocks, false, false)
	sends(t, "a", a.Put('C'), encoded(blocks[0], true))
	sends(t, "b", b.Put('C'), nil)
	a.Put(24)
	b.Put(24)
	is(t, "b", b, never, 0)
	sends(t, "b", b.Put(21), encoded(blocks[0], false))
	sends(t, "a", a.Put(6), encoded(blocks[1], true))
	sends(t, "b", b.Tick(), encoded(blocks[0], false))
	sends(t, "a", a.Tick(), nil)
	sends(t, "b", b.Tick(), encoded(blocks[0], false))
	sends(t, "b", b.Tick(), []byte{24, 24})
	is(t, "b", b, api.ErrTries, 0)
	is(t, "a", a, never, 1)
	sends(t, "a", a.Put(6), []byte{4})
}

// W1: of a Sender that Of did not make nothing is promised but that no call panics.
func TestZero(t *testing.T) {
	for _, w := range words("NACXt.", 4) {
		var s Sender
		for i := range len(w) {
			do(&s, w[i])
			s.Done()
			if s.Sent() != 0 {
				t.Fatal(w, s.Sent())
			}
		}
	}
}
