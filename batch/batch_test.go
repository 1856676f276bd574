package batch

import (
	"bytes"
	"math"
	"math/rand"
	"slices"
	"strconv"
	"strings"
	"testing"

	"lifeline/api"
	"lifeline/block"
	"lifeline/receiver"
	"lifeline/sender"
)

// The signatures of the chapter, to the letter.
var (
	_ func(sender.Config, api.File, []byte) (*Sender, error) = Of
	_ func(*Sender, byte) []byte                             = (*Sender).Put
	_ func(*Sender) []byte                                   = (*Sender).Tick
	_ func(*Sender) (bool, error)                            = (*Sender).Done
	_ func(sender.Config) *Receiver                          = Take
	_ func(*Receiver, ...byte) []byte                        = (*Receiver).Put
	_ func(*Receiver) []byte                                 = (*Receiver).Tick
	_ func(*Receiver) (bool, error)                          = (*Receiver).Done
	_ func(*Receiver) api.File                               = (*Receiver).File
	_ func(*Receiver) []byte                                 = (*Receiver).Data
)

// never is what the error of a transfer is compared with that is not over.
const never = api.Errno(-1)

// edges are ints about the limits of tries and ticks, and the least and the greatest.
var edges = []int{math.MinInt, -100, -1, 0, 1, 2, 8, 9, 10, 98, 99, 100, 1 << 40, math.MaxInt}

// sizes are those of files about the sizes of blocks, and the greatest.
var sizes = []int{0, 1, 3, 127, 128, 129, 255, 256, 257, 1023, 1024, 1025, 1151, 1152, 1153, 2047, 2048, 2049, 8063, 8064, 8065, 8191, 8192}

// limit is a number limited to a range, as the chapter of the senders says.
func limit(n, most int) int {
	switch {
	case n < 1:
		return 1
	case n > most:
		return most
	}
	return n
}

// dataOf is so many bytes that differ from seed to seed.
func dataOf(size, seed int) []byte {
	data := make([]byte, size)
	for i := range data {
		data[i] = byte(i*7 + i/256*3 + seed*31 + 4)
	}
	return data
}

// fileOf is a file of so many bytes.
func fileOf(size int) api.File {
	return api.File{Name: "boot-1.bin", Size: size, Time: 1234567, Mode: 420}
}

// zeros is a text that zero bytes fill up.
func zeros(text string, size int) []byte {
	data := make([]byte, size)
	copy(data, text)
	return data
}

// head is the description of a file, spelled out.
func head(f api.File) []byte {
	octal := func(n int) string { return strconv.FormatInt(int64(n), 8) }
	return zeros(f.Name+"\x00"+strconv.Itoa(f.Size)+" "+octal(f.Time)+" "+octal(f.Mode), 128)
}

// partsOf is data in parts of 1024 bytes, and what is left in parts of 128, with Pads behind.
func partsOf(data []byte) [][]byte {
	long := len(data) / 1024 * 1024
	rest := bytes.Clone(data[long:])
	for len(rest)%128 > 0 {
		rest = append(rest, 26)
	}
	return append(slices.Collect(slices.Chunk(data[:long], 1024)), slices.Collect(slices.Chunk(rest, 128))...)
}

// madeOf is the encoding of a block.
func madeOf(t *testing.T, number byte, data []byte, crc bool) []byte {
	t.Helper()
	b, ok := block.Make(api.Block{Number: number, Data: data}, crc)
	if !ok {
		t.Fatal("no block of", len(data), "bytes")
	}
	return b
}

// says compares what is sent or answered.
func says(t *testing.T, name string, got, want []byte) {
	t.Helper()
	if !bytes.Equal(got, want) {
		t.Fatalf("%s: %d bytes % .9x, want %d bytes % .9x, or others behind", name, len(got), got, len(want), want)
	}
}

// ended compares what Done tells; err is never if it should not be over.
func ended(t *testing.T, name string, over bool, got, err error) {
	t.Helper()
	want := err
	if err == never {
		want = nil
	}
	if over != (err != never) || got != want {
		t.Fatalf("%s: Done = %v, %v, want %v", name, over, got, err)
	}
}

// words are all words of the letters of a given length.
func words(letters string, length int) []string {
	list := []string{""}
	for range length {
		var longer []string
		for _, w := range list {
			for _, c := range letters {
				longer = append(longer, w+string(c))
			}
		}
		list = longer
	}
	return list
}

// made is a new Sender of a file of so many bytes.
func made(t *testing.T, c sender.Config, size int) *Sender {
	t.Helper()
	s, err := Of(c, fileOf(size), dataOf(size, size))
	if err != nil || s == nil {
		t.Fatal("no Sender of", size, "bytes:", err)
	}
	return s
}

// down is what a letter stands for that a Sender of a file of so many bytes sends: h the description, 1 to 9 a block, z the empty description, all of them with a CRC; H, a to i and Z the same with a checksum; E, X two Cans, - nothing.
func down(t *testing.T, letter byte, size int) []byte {
	t.Helper()
	parts := partsOf(dataOf(size, size))
	switch {
	case letter == 'h' || letter == 'H':
		return madeOf(t, 0, head(fileOf(size)), letter == 'h')
	case letter == 'z' || letter == 'Z':
		return madeOf(t, 0, make([]byte, 128), letter == 'z')
	case letter >= '1' && letter <= '9':
		return madeOf(t, letter-'0', parts[letter-'1'], true)
	case letter >= 'a' && letter <= 'i':
		return madeOf(t, letter-'a'+1, parts[letter-'a'], false)
	}
	return map[byte][]byte{'-': nil, 'E': {4}, 'X': {24, 24}}[letter]
}

// up is the byte that a letter stands for that a Sender receives.
func up(letter byte) byte {
	return map[byte]byte{'C': 'C', 'A': 6, 'N': 21, 'X': 24, '.': 'x', 'E': 4}[letter]
}

// sending is what happens to a Sender, a letter each, t a tick; what it sends each time, and how it is in the end.
type sending struct {
	tries, wait int
	size        int
	events      string
	sent        string
	err         error
}

// check has it happen.
func (r sending) check(t *testing.T) {
	t.Helper()
	if len(r.events) != len(r.sent) {
		t.Fatal(r.events, "and", r.sent, "are not of one length")
	}
	s := made(t, sender.Config{Tries: r.tries, Wait: r.wait}, r.size)
	for i := range len(r.events) {
		over, err := s.Done()
		ended(t, r.events[:i], over, err, never)
		name := strconv.Itoa(r.size) + " bytes, " + r.events[:i+1]
		says(t, name, put(s, r.events[i]), down(t, r.sent[i], r.size))
	}
	over, err := s.Done()
	ended(t, r.events, over, err, r.err)
}

// sendings has several happen.
func sendings(t *testing.T, list []sending) {
	t.Helper()
	for _, r := range list {
		r.check(t)
	}
}

// put has an event happen to a Sender: t is a tick, all others are bytes.
func put(s *Sender, event byte) []byte {
	if event == 't' {
		return s.Tick()
	}
	return s.Put(up(event))
}

// waits has so many ticks go by, of which only the last one brings something.
func waits(t *testing.T, name string, tick func() []byte, ticks int, want []byte) {
	t.Helper()
	for range ticks - 1 {
		says(t, name+", ahead of the last tick", tick(), nil)
	}
	says(t, name+", the last tick", tick(), want)
}

// spoil writes to bytes, and behind them as far as there is room.
func spoil(b []byte) {
	b = b[:cap(b)]
	for i := range b {
		b[i] = 99
	}
}

// P13.1, the chapter's example: a description, one block, an end, and an empty description; only the contents have an end.
func TestSender(t *testing.T) {
	sendings(t, []sending{
		{3, 9, 3, "", "", never},
		{3, 9, 3, "CACAAC", "h-1E-z", never},
		{3, 9, 3, "CACAACA", "h-1E-z-", nil},
		{3, 9, 0, "CACACA", "h-E-z-", nil},
		{3, 9, 128, "CACAACA", "h-1E-z-", nil},
		{3, 9, 129, "CACAAACA", "h-12E-z-", nil},
		{3, 9, 1024, "CACAACA", "h-1E-z-", nil},
		{3, 9, 1025, "CACAAACA", "h-12E-z-", nil},
		{3, 9, 3300, "CACAAAAAACA", "h-12345E-z-", nil},
		{3, 9, 8192, "CACAAAAAAAAACA", "h-12345678E-z-", nil},
	})
}

// P13.1: files of all sizes, about those of blocks: the blocks in order, numbered from 1 on.
func TestSenderSizes(t *testing.T) {
	for _, size := range sizes {
		s := made(t, sender.Config{}, size)
		name := strconv.Itoa(size) + " bytes"
		says(t, name+", the description", s.Put('C'), down(t, 'h', size))
		says(t, name+", its answer", s.Put(6), nil)
		event := byte('C')
		for k, part := range partsOf(dataOf(size, size)) {
			says(t, name+", block "+strconv.Itoa(k+1), s.Put(event), madeOf(t, byte(k+1), part, true))
			event = 6
		}
		says(t, name+", the end", s.Put(event), []byte{4})
		says(t, name+", its answer", s.Put(6), nil)
		says(t, name+", the empty description", s.Put('C'), down(t, 'z', size))
		over, err := s.Done()
		ended(t, name, over, err, never)
		says(t, name+", the last answer", s.Put(6), nil)
		over, err = s.Done()
		ended(t, name, over, err, nil)
	}
}

// P13.1: each part chooses between CRCs and checksums anew, by the byte that asks for it.
func TestSenderSums(t *testing.T) {
	sendings(t, []sending{
		{3, 9, 129, "NANAAANA", "H-abE-Z-", nil},
		{3, 9, 129, "CANAAACA", "h-abE-z-", nil},
		{3, 9, 129, "NACAAACA", "H-12E-z-", nil},
		{3, 9, 129, "NACAAANA", "H-12E-Z-", nil},
		{3, 9, 129, "CACAAANA", "h-12E-Z-", nil},
		{3, 9, 129, "CNANNANANACNA", "hh-aabbEE-zz-", nil},
		{3, 9, 129, "NNACNANANANNA", "HH-1122EE-ZZ-", nil},
	})
}

// P13.1: at the beginning of each part only what asks has an effect, and within it only what answers.
func TestSenderBytes(t *testing.T) {
	sendings(t, []sending{
		{3, 9, 3, "A.EXAAC", "------h", never},
		{3, 9, 3, "CAA.EXAAC", "h-------1", never},
		{3, 9, 3, "CACAAA.EXAAC", "h-1E-------z", never},
		{3, 9, 3, "CC.EACC.EACC.EACC.A", "h----1---E-----z---", nil},
	})
}

// P13.1: all 256 bytes, at the beginning and in the block of each part.
func TestSenderEveryByte(t *testing.T) {
	for _, at := range []struct{ events, sent string }{{"", "hH-"}, {"C", "-h-"}, {"CA", "1a-"}, {"CAC", "-1E"}, {"CACA", "-E-"}, {"CACAA", "zZ-"}, {"CACAAC", "-z-"}} {
		for c := range 256 {
			s := made(t, sender.Config{Tries: 3, Wait: 9}, 3)
			for i := range len(at.events) {
				put(s, at.events[i])
			}
			want := byte('-')
			if k := bytes.IndexByte([]byte{'C', 21, 6}, byte(c)); k >= 0 {
				want = at.sent[k]
			}
			name := at.events + ", byte " + strconv.Itoa(c)
			says(t, name, s.Put(byte(c)), down(t, want, 3))
			err := error(never)
			if at.events == "CACAAC" && c == 6 {
				err = nil
			}
			over, got := s.Done()
			ended(t, name, over, got, err)
		}
	}
}

// P13.1: a part that was tried too often ends all of it; each part has all tries anew.
func TestSenderTries(t *testing.T) {
	sendings(t, []sending{
		{3, 9, 3, "CNNACNNANNACNNA", "hhh-111EEE-zzz-", nil},
		{3, 9, 3, "CNNN", "hhhX", api.ErrTries},
		{3, 9, 3, "NNNN", "HHHX", api.ErrTries},
		{3, 9, 3, "CNNACNNN", "hhh-111X", api.ErrTries},
		{3, 9, 3, "CACANNN", "h-1EEEX", api.ErrTries},
		{3, 9, 3, "CACAACNNN", "h-1E-zzzX", api.ErrTries},
		{1, 9, 3, "CN", "hX", api.ErrTries},
		{1, 9, 3, "CACN", "h-1X", api.ErrTries},
		{1, 9, 3, "CACAACN", "h-1E-zX", api.ErrTries},
		{1, 9, 3, "CACAACA", "h-1E-z-", nil},
	})
}

// P13.1: ticks without an answer, in each part: they begin anew with the part.
func TestSenderTicks(t *testing.T) {
	sendings(t, []sending{
		{2, 2, 3, "ttt", "---", never},
		{2, 2, 3, "tttt", "---X", api.ErrTries},
		{2, 2, 3, "tCAttt", "-h----", never},
		{2, 2, 3, "CtAtttt", "h-----X", api.ErrTries},
		{2, 2, 3, "CACtAtAttt", "h-1-E-----", never},
		{2, 2, 3, "CACtAtAtttt", "h-1-E-----X", api.ErrTries},
		{2, 2, 3, "CttA", "h-h-", never},
		{2, 2, 3, "Ctttt", "h-h-X", api.ErrTries},
		{2, 2, 3, "CACtttt", "h-1-1-X", api.ErrTries},
		{2, 2, 3, "CACAtttt", "h-1E-E-X", api.ErrTries},
		{2, 2, 3, "CACAACtttt", "h-1E-z-z-X", api.ErrTries},
		{3, 1, 3, "CttACttAttACttA", "hhh-111EEE-zzz-", nil},
		{3, 1, 3, "tCttAtCttAttAttCttA", "-hhh--111EEE---zzz-", nil},
		{1, 1, 3, "t", "X", api.ErrTries},
		{1, 1, 3, "CAt", "h-X", api.ErrTries},
		{1, 1, 3, "CACAAt", "h-1E-X", api.ErrTries},
	})
}

// P13.1: two Cans in a row end it in each part; a Can in one part and one in the next are not in a row.
func TestSenderCancel(t *testing.T) {
	sendings(t, []sending{
		{3, 9, 3, "XX", "--", api.ErrCancel},
		{3, 9, 3, "CXX", "h--", api.ErrCancel},
		{3, 9, 3, "CAXX", "h---", api.ErrCancel},
		{3, 9, 3, "CACXX", "h-1--", api.ErrCancel},
		{3, 9, 3, "CACAXX", "h-1E--", api.ErrCancel},
		{3, 9, 3, "CACAAXX", "h-1E---", api.ErrCancel},
		{3, 9, 3, "CACAACXX", "h-1E-z--", api.ErrCancel},
		{3, 9, 3, "CACAACXtX", "h-1E-z---", api.ErrCancel},
		{3, 9, 3, "X.X", "---", never},
		{3, 9, 3, "CXAXC", "h---1", never},
		{3, 9, 3, "CACAXAXC", "h-1E---z", never},
		{3, 9, 3, "CAXCXAXAXC", "h--1-E---z", never},
	})
}

// P13.1: once it is over no call has an effect, nor is anything sent.
func TestSenderOver(t *testing.T) {
	for _, r := range []sending{
		{1, 2, 3, "CACAACA", "h-1E-z-", nil},
		{1, 2, 0, "CACACA", "h-E-z-", nil},
		{1, 2, 3, "tt", "-X", api.ErrTries},
		{1, 2, 3, "CN", "hX", api.ErrTries},
		{1, 2, 3, "CAtt", "h--X", api.ErrTries},
		{1, 2, 3, "CACAACN", "h-1E-zX", api.ErrTries},
		{1, 2, 3, "XX", "--", api.ErrCancel},
		{1, 2, 3, "CAXX", "h---", api.ErrCancel},
		{1, 2, 3, "CACAAXX", "h-1E---", api.ErrCancel},
	} {
		r.check(t)
		s := made(t, sender.Config{Tries: r.tries, Wait: r.wait}, r.size)
		for i := range len(r.events) {
			put(s, r.events[i])
		}
		for _, c := range "tCANX.EXXttttCACAACANt" {
			says(t, r.events+" and "+string(c), put(s, byte(c)), nil)
			over, err := s.Done()
			ended(t, r.events+" and "+string(c), over, err, r.err)
		}
	}
}

// P13.1: tries and ticks, also beyond their limits, hold at the beginning and in the block of each part.
func TestSenderConfig(t *testing.T) {
	for _, tries := range edges {
		for _, wait := range edges {
			for _, at := range []struct{ events, again string }{{"", "-"}, {"C", "h"}, {"CA", "-"}, {"CAC", "1"}, {"CACA", "E"}, {"CACAA", "-"}, {"CACAAC", "z"}} {
				s := made(t, sender.Config{Tries: tries, Wait: wait}, 3)
				for i := range len(at.events) {
					put(s, at.events[i])
				}
				name := strconv.Itoa(tries) + " tries, " + strconv.Itoa(wait) + " ticks, " + at.events
				for range limit(tries, 9) - 1 {
					waits(t, name, s.Tick, limit(wait, 99), down(t, at.again[0], 3))
				}
				over, err := s.Done()
				ended(t, name, over, err, never)
				waits(t, name, s.Tick, limit(wait, 99), []byte{24, 24})
				over, err = s.Done()
				ended(t, name, over, err, api.ErrTries)
			}
		}
	}
}

// P13.1: the files that are sent, at their edges, with what is said of them; the Size that is given does not matter.
func TestValid(t *testing.T) {
	long := strings.Repeat("aZ9.-_xY", 4)
	for _, f := range []api.File{
		{Name: "a"}, {Name: "Z"}, {Name: "z.-_09AZaz"}, {Name: long},
		{Name: "a", Time: 1<<32 - 1, Mode: 65535}, {Name: "a", Time: 8, Mode: 0}, {Name: "a", Time: 0, Mode: 9},
		{Name: "a", Size: -1}, {Name: "a", Size: 8193}, {Name: "a", Size: 5}, {Name: "a", Size: math.MinInt}, {Name: "a", Size: math.MaxInt},
	} {
		for _, size := range []int{0, 5, 8192} {
			s, err := Of(sender.Config{}, f, make([]byte, size))
			if s == nil || err != nil {
				t.Fatal(f, size, err)
			}
			sent := f
			sent.Size = size
			says(t, f.Name, s.Put('C'), madeOf(t, 0, head(sent), true))
		}
	}
}

// P13.1: the files that are not sent: there is no Sender, and the error has no position.
func TestNotValid(t *testing.T) {
	good := api.File{Name: "a", Size: 3, Time: 5, Mode: 7}
	for _, name := range []string{"", "1", ".a", "-a", "_a", "a b", "a/b", "a\x00", "\x00", "ä", "a\xff", "a\n", strings.Repeat("a", 33), strings.Repeat("a", 1<<16)} {
		f := good
		f.Name = name
		refused(t, f, 3)
	}
	for _, n := range []int{math.MinInt, -1, 1 << 32, math.MaxInt} {
		f := good
		f.Time = n
		refused(t, f, 3)
	}
	for _, n := range []int{math.MinInt, -1, 65536, math.MaxInt} {
		f := good
		f.Mode = n
		refused(t, f, 3)
	}
	for _, size := range []int{8193, 8194, 1 << 14, 1 << 20} {
		refused(t, good, size)
	}
	refused(t, api.File{}, 0)
}

// refused checks that a file of so many bytes has no Sender.
func refused(t *testing.T, f api.File, size int) {
	t.Helper()
	if s, err := Of(sender.Config{Tries: 3, Wait: 4}, f, make([]byte, size)); s != nil || err != error(api.ErrArgument) {
		t.Fatal(f, size, s, err)
	}
}

// W6: bytes that are sent are neither retained nor modified.
func TestBytesNotRetained(t *testing.T) {
	for _, size := range []int{3, 129, 1024, 3300} {
		room := append(dataOf(size, size), dataOf(200, 7)...)
		want := bytes.Clone(room)
		s, err := Of(sender.Config{}, fileOf(0), room[:size])
		if err != nil || !bytes.Equal(room, want) {
			t.Fatal("the bytes were modified", err)
		}
		clear(room)
		says(t, "the description", s.Put('C'), down(t, 'h', size))
		s.Put(6)
		event := byte('C')
		for k := range partsOf(want[:size]) {
			says(t, "a block", s.Put(event), down(t, byte('1'+k), size))
			event = 6
		}
	}
}

// W6: what is sent is new each time: whoever gets it may write to it.
func TestSentApart(t *testing.T) {
	for _, events := range []string{"CNtACNtANtACNtA", "NNtANNtANtANNtA"} {
		s := made(t, sender.Config{Tries: 9, Wait: 1}, 3)
		again := made(t, sender.Config{Tries: 9, Wait: 1}, 3)
		for i := range len(events) {
			got := put(s, events[i])
			want := bytes.Clone(got)
			spoil(got)
			says(t, events[:i+1], put(again, events[i]), want)
		}
	}
}

// W2: two Senders know nothing of each other, whatever the order of their calls.
func TestTwoSenders(t *testing.T) {
	a := made(t, sender.Config{Tries: 2, Wait: 2}, 3)
	b := made(t, sender.Config{Tries: 1, Wait: 1}, 200)
	says(t, "a", a.Put('C'), down(t, 'h', 3))
	says(t, "b", b.Put(21), down(t, 'H', 200))
	says(t, "a", a.Put(6), nil)
	says(t, "a", a.Put('C'), down(t, '1', 3))
	says(t, "b", b.Tick(), []byte{24, 24})
	says(t, "a", a.Put(24), nil)
	over, err := a.Done()
	ended(t, "a", over, err, never)
	over, err = b.Done()
	ended(t, "b", over, err, api.ErrTries)
	says(t, "a", a.Put(6), []byte{4})
}

// note is what an event brings, and how all is behind it.
type note struct {
	out  []byte
	err  error // never if it is not over
	file api.File
	data []byte
}

// readSender is the chapter read another way: all events are played to the Sender of a part till it is over, those behind them to that of the next one.
func readSender(c sender.Config, size int, events string) []note {
	var blocks []api.Block
	for k, part := range partsOf(dataOf(size, size)) {
		blocks = append(blocks, api.Block{Number: byte(k + 1), Data: part})
	}
	var notes []note
	end := error(never)
	for k, part := range [][]api.Block{{{Data: head(fileOf(size))}}, blocks, {{Data: make([]byte, 128)}}} {
		s := sender.Of(c, part, true, k == 1)
		over := end != never
		for len(notes) < len(events) && !over {
			var out []byte
			if event := events[len(notes)]; event == 't' {
				out = s.Tick()
			} else {
				out = s.Put(up(event))
			}
			var err error
			if over, err = s.Done(); over && (err != nil || k == 2) {
				end = err
			}
			notes = append(notes, note{out: out, err: end})
		}
	}
	for len(notes) < len(events) {
		notes = append(notes, note{err: end})
	}
	return notes
}

// followSender has events happen to a Sender, and compares all with the reading.
func followSender(t *testing.T, c sender.Config, size int, events string) {
	t.Helper()
	s := made(t, c, size)
	for i, n := range readSender(c, size, events) {
		says(t, events[:i+1], put(s, events[i]), n.out)
		over, err := s.Done()
		ended(t, events[:i+1], over, err, n.err)
	}
}

// P13.1: every run of four events, ahead of, within and behind each part, against the reading.
func TestSenderAllSmall(t *testing.T) {
	all := words("CANXt.", 4)
	for _, c := range []sender.Config{{Tries: 1, Wait: 1}, {Tries: 2, Wait: 1}, {Tries: 1, Wait: 2}, {Tries: 3, Wait: 3}} {
		for _, size := range []int{0, 3, 129} {
			whole := "CAC" + strings.Repeat("A", len(partsOf(make([]byte, size)))) + "ACA"
			for k := range len(whole) + 1 {
				for _, w := range all {
					followSender(t, c, size, whole[:k]+w)
				}
			}
		}
	}
}

// P13.1: long runs by chance, mostly such as go on, against the reading.
func TestSenderChance(t *testing.T) {
	r := rand.New(rand.NewSource(13))
	for range 8000 {
		c := sender.Config{Tries: r.Intn(12) - 1, Wait: r.Intn(8) - 1}
		events := make([]byte, r.Intn(60))
		for i := range events {
			events[i] = "CACACACAAACCNNttttX.E"[r.Intn(21)]
		}
		followSender(t, c, sizes[r.Intn(len(sizes))], string(events))
	}
}

// other is another file.
var other = api.File{Name: "x", Size: 1}

// piece is the bytes that a letter stands for that a Receiver of a file of so many bytes gets: d its description, D that altered, o that of another file, 0 the empty description, l a large one, 1 to 9 a block, ! block 1 altered, < and > its two parts, _ no bytes, and single ones.
func piece(t *testing.T, letter byte, size int) []byte {
	t.Helper()
	parts := append(partsOf(dataOf(size, size)), make([]byte, 128))
	one := madeOf(t, 1, parts[0], true)
	switch letter {
	case '_':
		return nil
	case 'd':
		return madeOf(t, 0, head(fileOf(size)), true)
	case 'D':
		return append(madeOf(t, 0, head(fileOf(size)), true)[:132], 1)
	case 'o':
		return madeOf(t, 0, head(other), true)
	case '0':
		return madeOf(t, 0, make([]byte, 128), true)
	case 'l':
		return madeOf(t, 0, make([]byte, 1024), true)
	case '!':
		one[50] ^= 8
		return one
	case '<':
		return one[:70]
	case '>':
		return one[70:]
	}
	if k := strings.IndexByte("EXS.", letter); k >= 0 {
		return []byte{4, 24, 1, 'x'}[k : k+1]
	}
	return madeOf(t, letter-'0', parts[letter-'1'], true)
}

// pieces is the bytes of several letters.
func pieces(t *testing.T, letters string, size int) []byte {
	t.Helper()
	var b []byte
	for i := range len(letters) {
		b = append(b, piece(t, letters[i], size)...)
	}
	return b
}

// do has an event happen: t is a tick, all others are letters of pieces that come in one go.
func do(t *testing.T, r *Receiver, event string, size int) []byte {
	t.Helper()
	if event == "t" {
		return r.Tick()
	}
	return r.Put(pieces(t, event, size)...)
}

// is compares all that can be asked of a Receiver.
func is(t *testing.T, name string, r *Receiver, err error, file api.File, data []byte) {
	t.Helper()
	over, got := r.Done()
	ended(t, name, over, got, err)
	if r.File() != file {
		t.Fatalf("%s: File = %v, want %v", name, r.File(), file)
	}
	if !bytes.Equal(r.Data(), data) {
		t.Fatalf("%s: Data has %d bytes, want %d, or others", name, len(r.Data()), len(data))
	}
}

// answer is what a letter of the answers stands for.
func answer(letter byte) []byte {
	return map[byte][]byte{'-': nil, 'A': {6}, 'N': {21}, 'C': {'C'}, 'X': {24, 24}}[letter]
}

// taking is what happens to a Receiver, what it answers each time, and how it is in the end.
type taking struct {
	tries, wait int
	size        int
	events      string // with spaces between
	answers     string
	err         error
	known       string // f: the File is known, d: the Data are
}

// have has it happen, and is the Receiver.
func (r taking) have(t *testing.T) *Receiver {
	t.Helper()
	got := Take(sender.Config{Tries: r.tries, Wait: r.wait})
	is(t, r.events, got, never, api.File{}, nil)
	events := strings.Fields(r.events)
	if len(events) != len(r.answers) {
		t.Fatalf("%s: %d events, %d answers", r.events, len(events), len(r.answers))
	}
	for i, event := range events {
		says(t, strings.Join(events[:i+1], " "), do(t, got, event, r.size), answer(r.answers[i]))
	}
	r.end(t, r.events, got)
	return got
}

// end compares the Receiver in the end.
func (r taking) end(t *testing.T, name string, got *Receiver) {
	t.Helper()
	var file api.File
	var data []byte
	if strings.Contains(r.known, "f") {
		file = fileOf(r.size)
	}
	if strings.Contains(r.known, "d") {
		data = dataOf(r.size, r.size)
	}
	is(t, name, got, r.err, file, data)
}

// takings has several happen.
func takings(t *testing.T, list []taking) {
	t.Helper()
	for _, r := range list {
		r.have(t)
	}
}

// P13.2: a description, blocks, an end, and an empty description; File and Data are known from their part on.
func TestReceiver(t *testing.T) {
	takings(t, []taking{
		{3, 4, 3, "", "", never, ""},
		{3, 4, 3, "t", "C", never, ""},
		{3, 4, 3, "t d", "CA", never, "f"},
		{3, 4, 3, "t d t", "CAC", never, "f"},
		{3, 4, 3, "t d t 1", "CACA", never, "f"},
		{3, 4, 3, "t d t 1 E", "CACAA", never, "fd"},
		{3, 4, 3, "t d t 1 E t", "CACAAC", never, "fd"},
		{3, 4, 3, "t d t 1 E t 0", "CACAACA", nil, "fd"},
		{3, 4, 3, "d 1 E 0", "AAAA", nil, "fd"},
		{3, 4, 0, "d E 0", "AAA", nil, "fd"},
		{3, 4, 129, "d 1 2 E 0", "AAAAA", nil, "fd"},
		{3, 4, 1025, "d 1 2 E 0", "AAAAA", nil, "fd"},
		{3, 4, 8192, "d 1 2 3 4 5 6 7 8 E 0", "AAAAAAAAAAA", nil, "fd"},
		{3, 4, 3, "_ d _ 1 _ E _ 0", "-A-A-A-A", nil, "fd"},
	})
}

// P13.2: what belongs to one part may be wrong in another.
func TestReceiverParts(t *testing.T) {
	takings(t, []taking{
		{3, 4, 3, "0", "A", api.ErrArgument, ""},
		{3, 4, 3, "l", "A", api.ErrArgument, ""},
		{3, 4, 3, "1", "X", api.ErrArgument, ""},
		{3, 4, 3, "E", "N", never, ""},
		{3, 4, 3, "E d", "NA", never, "f"},
		{3, 4, 3, "d d", "AX", api.ErrArgument, "f"},
		{3, 4, 3, "d 0", "AX", api.ErrArgument, "f"},
		{3, 4, 129, "d 2", "AX", api.ErrArgument, "f"},
		{3, 4, 129, "d 1 d", "AAX", api.ErrArgument, "f"},
		{3, 4, 129, "d 1 1 2 2 2 E 0", "AAAAAAAA", nil, "fd"},
		{3, 4, 257, "d 1 2 3 1", "AAAAX", api.ErrArgument, "f"},
		{3, 4, 3, "d 1 E 1", "AAAX", api.ErrArgument, "fd"},
		{3, 4, 3, "d 1 E E", "AAAN", never, "fd"},
		{3, 4, 3, "d 1 E E 0", "AAANA", nil, "fd"},
		{3, 4, 3, "d 1 E d", "AAAA", api.ErrArgument, "fd"},
		{3, 4, 3, "d 1 E o", "AAAA", api.ErrArgument, "fd"},
		{3, 4, 3, "d 1 E l", "AAAA", api.ErrArgument, "fd"},
	})
}

// P13.2: fewer bytes than the Size.
func TestReceiverLost(t *testing.T) {
	takings(t, []taking{
		{3, 4, 1, "d E", "AA", api.ErrLost, "f"},
		{3, 4, 3, "d E", "AA", api.ErrLost, "f"},
		{3, 4, 129, "d E", "AA", api.ErrLost, "f"},
		{3, 4, 129, "d 1 E", "AAA", api.ErrLost, "f"},
		{3, 4, 129, "d 1 1 E", "AAAA", api.ErrLost, "f"},
		{3, 4, 1025, "d 1 E", "AAA", api.ErrLost, "f"},
		{3, 4, 8192, "d 1 2 3 4 5 6 7 E", "AAAAAAAAA", api.ErrLost, "f"},
	})
}

// P13.2: bytes that are altered, that come in parts, and that come behind those that end a part, which are lost.
func TestReceiverBytes(t *testing.T) {
	takings(t, []taking{
		{3, 4, 3, "D D d ! 1 E . 0", "NNANAANA", nil, "fd"},
		{3, 4, 3, ". d . 1 . E . 0", "NANANANA", nil, "fd"},
		{3, 4, 3, "d < > E 0", "A-AAA", nil, "fd"},
		{3, 4, 3, "dE E", "AA", api.ErrLost, "f"},
		{3, 4, 3, "d1 1 E 0", "AAAA", nil, "fd"},
		{3, 4, 3, "d1E0", "A", never, "f"},
		{3, 4, 3, "d1 1E E0", "AAA", never, "fd"},
		{3, 4, 3, "d1 1E E0 0", "AAAA", nil, "fd"},
		{3, 4, 3, "d< >", "AN", never, "f"},
		{3, 4, 3, "d. 1. E. 0.", "AAAA", nil, "fd"},
		{3, 4, 3, "dS 1 ES 0", "AAAA", nil, "fd"},
		{3, 4, 3, "S d d 1 E 0", "-NAAAA", nil, "fd"},
		{3, 4, 3, "d S 1 1 E 0", "A-NAAA", nil, "fd"},
		{3, 4, 3, "d 1 E S 0 0", "AAA-NA", nil, "fd"},
	})
}

// P13.2: two Cans end it in each part; one behind the end of a part is lost.
func TestReceiverCancel(t *testing.T) {
	takings(t, []taking{
		{3, 4, 3, "XX", "-", api.ErrCancel, ""},
		{3, 4, 3, "X X", "--", api.ErrCancel, ""},
		{3, 4, 3, "d XX", "A-", api.ErrCancel, "f"},
		{3, 4, 3, "d X X", "A--", api.ErrCancel, "f"},
		{3, 4, 3, "dX X", "A-", never, "f"},
		{3, 4, 3, "dX X X", "A--", api.ErrCancel, "f"},
		{3, 4, 3, "d 1 XX", "AA-", api.ErrCancel, "f"},
		{3, 4, 3, "d 1 E XX", "AAA-", api.ErrCancel, "fd"},
		{3, 4, 3, "d 1 EX X", "AAA-", never, "fd"},
		{3, 4, 3, "d 1 EX X X", "AAA--", api.ErrCancel, "fd"},
		{3, 4, 3, "X d d", "-NA", never, "f"},
	})
}

// P13.2: ticks, in each part: all parts ask in their first one, and have all tries anew; with a block the contents are asked for without end.
func TestReceiverTicks(t *testing.T) {
	takings(t, []taking{
		{2, 3, 3, "t t t t t t", "C--C--", never, ""},
		{2, 3, 3, "t t t t t t t", "C--C--X", api.ErrTries, ""},
		{2, 3, 3, "t d t t t t t t t", "CAC--C--X", api.ErrTries, "f"},
		{2, 3, 3, "d 1 E t t t t t t t", "AAAC--C--X", api.ErrTries, "fd"},
		{2, 3, 3, "t t d t", "C-AC", never, "f"},
		{2, 3, 3, "t t t t d t t t t 1 t E t t t t 0", "C--CAC--CA-AC--CA", nil, "fd"},
		{1, 1, 3, "t d t 1 t t t t E t 0", "CACANNNNACA", nil, "fd"},
		{1, 1, 3, "t d t t", "CACX", api.ErrTries, "f"},
		{1, 1, 3, "t d t 1 E t t", "CACAACX", api.ErrTries, "fd"},
		{2, 3, 3, "d t 1 t t t t t t E", "ACA--N--NA", never, "fd"},
		{2, 3, 3, "d < t t t >", "A---CN", never, "f"},
		{2, 3, 3, "d < t t > E", "A---AA", never, "fd"},
		{2, 3, 3, "d . t t _ t", "AN---C", never, "f"},
	})
}

// P13.2: once it is over no call has an effect.
func TestReceiverOver(t *testing.T) {
	for _, r := range []taking{
		{1, 1, 3, "d 1 E 0", "AAAA", nil, "fd"},
		{1, 1, 0, "d E 0", "AAA", nil, "fd"},
		{1, 1, 3, "0", "A", api.ErrArgument, ""},
		{1, 1, 3, "1", "X", api.ErrArgument, ""},
		{1, 1, 3, "XX", "-", api.ErrCancel, ""},
		{1, 1, 3, "t t", "CX", api.ErrTries, ""},
		{1, 1, 3, "d E", "AA", api.ErrLost, "f"},
		{1, 1, 3, "d d", "AX", api.ErrArgument, "f"},
		{1, 1, 3, "d t t", "ACX", api.ErrTries, "f"},
		{1, 1, 3, "d 1 E d", "AAAA", api.ErrArgument, "fd"},
		{1, 1, 3, "d 1 E XX", "AAA-", api.ErrCancel, "fd"},
		{1, 1, 3, "d 1 E t t", "AAACX", api.ErrTries, "fd"},
	} {
		got := r.have(t)
		for _, event := range strings.Fields("_ t 1 E 0 d o X X XX . < > ! t t d 1 E 0 t t") {
			says(t, r.events+" and "+event, do(t, got, event, 3), nil)
			r.end(t, r.events+" and "+event, got)
		}
	}
}

// P13.2: tries and ticks, also beyond their limits, hold in each part.
func TestReceiverConfig(t *testing.T) {
	for _, tries := range edges {
		for _, wait := range edges {
			for _, events := range []string{"", "d", "d 1 E"} {
				r := Take(sender.Config{Tries: tries, Wait: wait})
				name := strconv.Itoa(tries) + " tries, " + strconv.Itoa(wait) + " ticks, " + events
				for _, event := range strings.Fields(events) {
					do(t, r, event, 3)
				}
				waits(t, name, r.Tick, 1, []byte{'C'})
				for range limit(tries, 9) - 1 {
					waits(t, name, r.Tick, limit(wait, 99), []byte{'C'})
				}
				over, err := r.Done()
				ended(t, name, over, err, never)
				waits(t, name, r.Tick, limit(wait, 99), []byte{24, 24})
				over, err = r.Done()
				ended(t, name, over, err, api.ErrTries)
			}
		}
	}
}

// P13.2: only CRCs are taken in each part: of a block with a checksum a byte is missing.
func TestReceiverSums(t *testing.T) {
	for k, b := range [][]byte{madeOf(t, 0, head(fileOf(3)), false), madeOf(t, 1, partsOf(dataOf(3, 3))[0], false), madeOf(t, 0, make([]byte, 128), false)} {
		r := Take(sender.Config{})
		for _, event := range strings.Fields([]string{"", "d", "d 1 E"}[k]) {
			do(t, r, event, 3)
		}
		says(t, "a checksum", r.Put(b...), nil)
		says(t, "a byte behind it", r.Put(1), []byte{21})
	}
}

// P13.2: of the first part every number but 0 ends it, of the second one every number but 1, of the third one again every number but 0.
func TestReceiverNumbers(t *testing.T) {
	blocks := [][]byte{head(fileOf(3)), partsOf(dataOf(3, 3))[0], make([]byte, 128)}
	for k, events := range []string{"", "d", "d 1 E"} {
		for n := range 256 {
			r := Take(sender.Config{})
			for _, event := range strings.Fields(events) {
				do(t, r, event, 3)
			}
			want, err := []byte{24, 24}, error(api.ErrArgument)
			if n == k%2 {
				want, err = []byte{6}, error(never)
			}
			if n == 0 && k == 2 {
				err = nil
			}
			name := events + ", number " + strconv.Itoa(n)
			says(t, name, r.Put(madeOf(t, byte(n), blocks[k], true)...), want)
			over, got := r.Done()
			ended(t, name, over, got, err)
		}
	}
}

// described has the first part happen with some data.
func described(t *testing.T, data []byte) *Receiver {
	t.Helper()
	r := Take(sender.Config{})
	says(t, "a description", r.Put(madeOf(t, 0, data, true)...), []byte{6})
	return r
}

// P13.2: the descriptions of all files that are valid, at their edges.
func TestDescription(t *testing.T) {
	for _, f := range []api.File{
		{Name: "a"}, {Name: "Z", Size: 1}, {Name: strings.Repeat("aZ9.-_xY", 4), Size: 8192, Time: 1<<32 - 1, Mode: 65535},
		{Name: "x.-_09", Size: 10, Time: 8, Mode: 8}, {Name: "x", Time: 511, Mode: 512},
	} {
		is(t, f.Name, described(t, head(f)), never, f, nil)
	}
}

// P13.2: descriptions of no file.
func TestNoDescription(t *testing.T) {
	whole := string(head(fileOf(3)))
	list := []string{
		"", "a", "a\x00", "a\x000", "a\x000 0", "a\x000 0 ", "a 0 0 0", "a\x000 0 0 0", "a\x000 0 0 ", "a\x000 0 0\x001", "a\x00 0 0 0", "\x000 0 0",
		"1\x000 0 0", "a/b\x000 0 0", strings.Repeat("a", 33) + "\x000 0 0", "a\x008193 0 0", "a\x00-1 0 0", "a\x0000 0 0", "a\x00+1 0 0", "a\x001 08 0", "a\x001 0 8",
		"a\x001 40000000000 0", "a\x001 0 200000", "a\x000x1 0 0", "a\x00 1 0", "a\x001  0", "a\x0099999999999999999999 0 0", strings.Repeat("a", 128), strings.Repeat("\x00", 127) + "a", whole[1:] + "x",
	}
	for i := range len("boot-1.bin\x003 4553207 644") {
		list = append(list, whole[:i]+"!"+whole[i+1:])
	}
	for _, text := range list {
		is(t, strconv.Quote(text), described(t, zeros(text, 128)), api.ErrArgument, api.File{}, nil)
	}
	is(t, "a great one", described(t, zeros(whole, 1024)), api.ErrArgument, api.File{}, nil)
}

// P13.2: blocks of any sizes, and more or fewer bytes than the Size: the first of them are the Data.
func TestContents(t *testing.T) {
	for _, blocks := range []string{"", "s", "l", "sl", "ls", "sss", "llllllll", strings.Repeat("s", 300)} {
		var all []byte
		var encodings [][]byte
		for i, c := range blocks {
			data := dataOf(map[rune]int{'s': 128, 'l': 1024}[c], i)
			all = append(all, data...)
			encodings = append(encodings, madeOf(t, byte(i+1), data, true))
		}
		for _, size := range append([]int{0, 1, len(all) - 1, len(all), len(all) + 1}, sizes...) {
			if size < 0 || size > 8192 {
				continue
			}
			f := fileOf(size)
			r := described(t, head(f))
			name := strconv.Itoa(size) + " bytes in " + blocks
			for _, b := range encodings {
				says(t, name, r.Put(b...), []byte{6})
				is(t, name, r, never, f, nil)
			}
			says(t, name, r.Put(4), []byte{6})
			if size > len(all) {
				is(t, name, r, api.ErrLost, f, nil)
				continue
			}
			is(t, name, r, never, f, all[:size])
		}
	}
}

// P13.2: what ends it: 128 bytes, the first of which is 0, whatever the others are.
func TestEnding(t *testing.T) {
	for _, size := range []int{128, 1024} {
		for c := range 256 {
			for at := range 128 {
				if at > 1 && at < 127 && at != c/2 {
					continue
				}
				data := make([]byte, size)
				data[at] = byte(c)
				err := error(api.ErrArgument)
				if size == 128 && data[0] == 0 {
					err = nil
				}
				r := described(t, head(fileOf(0)))
				r.Put(4)
				name := strconv.Itoa(size) + " bytes, " + strconv.Itoa(c) + " at " + strconv.Itoa(at)
				says(t, name, r.Put(madeOf(t, 0, data, true)...), []byte{6})
				is(t, name, r, err, fileOf(0), nil)
			}
		}
	}
}

// P13.2: bytes that come one by one, with ticks between.
func TestOneByOne(t *testing.T) {
	for _, size := range []int{0, 3, 129, 3300} {
		r := Take(sender.Config{Tries: 1, Wait: 2})
		for i, b := range whole(t, size) {
			name := strconv.Itoa(size) + " bytes, piece " + strconv.Itoa(i)
			for k, c := range b {
				if k == len(b)-1 {
					says(t, name, r.Put(c), []byte{6})
					continue
				}
				says(t, name, r.Put(c), nil)
				says(t, name+", a tick", r.Tick(), nil)
			}
		}
		is(t, "one by one", r, nil, fileOf(size), dataOf(size, size))
	}
}

// W6: bytes that are put are neither retained nor modified, also those of a description.
func TestPutNotRetained(t *testing.T) {
	r := Take(sender.Config{Wait: 9})
	for _, letter := range "d12E0" {
		whole := piece(t, byte(letter), 129)
		for _, part := range [][]byte{whole[:len(whole)/2], whole[len(whole)/2:]} {
			room := append(bytes.Clone(part), 1, 2, 3)
			r.Put(room[:len(part)]...)
			if !bytes.Equal(room, append(bytes.Clone(part), 1, 2, 3)) {
				t.Fatal("the bytes were modified")
			}
			spoil(room)
		}
	}
	is(t, "spoiled bytes", r, nil, fileOf(129), dataOf(129, 129))
}

// W6: Data and answers are new each time: whoever gets them may write to them, and behind them.
func TestResultsApart(t *testing.T) {
	for range 3 {
		r := Take(sender.Config{Wait: 1})
		for i, event := range strings.Fields("t . D d t 1 t 2 E t 0") {
			got := do(t, r, event, 129)
			says(t, event, got, answer("CNNACANAACA"[i]))
			spoil(got)
			spoil(r.Data())
		}
		first := r.Data()
		spoil(r.Data())
		is(t, "spoiled Data", r, nil, fileOf(129), dataOf(129, 129))
		says(t, "Data", first, dataOf(129, 129))
	}
}

// W2: two Receivers know nothing of each other, whatever the order of their calls.
func TestTwoReceivers(t *testing.T) {
	a, b := Take(sender.Config{Tries: 2, Wait: 2}), Take(sender.Config{Tries: 1, Wait: 1})
	says(t, "a", do(t, a, "d", 3), []byte{6})
	says(t, "b", do(t, b, "t", 129), []byte{'C'})
	is(t, "b", b, never, api.File{}, nil)
	says(t, "b", do(t, b, "d", 129), []byte{6})
	says(t, "a", do(t, a, "<", 3), nil)
	says(t, "b", do(t, b, "<", 129), nil)
	says(t, "a", do(t, a, ">", 3), []byte{6})
	says(t, "b", do(t, b, "X", 129), nil)
	says(t, "a", do(t, a, "E", 3), []byte{6})
	is(t, "a", a, never, fileOf(3), dataOf(3, 3))
	is(t, "b", b, never, fileOf(129), nil)
}

// W1: of what Of and Take did not make nothing is promised but that no call panics.
func TestZero(t *testing.T) {
	for _, w := range words("CANXt", 4) {
		var s Sender
		for i := range len(w) {
			put(&s, w[i])
			s.Done()
		}
	}
	for _, w := range words("d1E0Xt", 3) {
		var r Receiver
		for i := range len(w) {
			do(t, &r, w[i:i+1], 3)
			r.Done()
			r.File()
			r.Data()
		}
	}
}

// event is bytes that come in one go, or a tick.
type event struct {
	tick  bool
	bytes []byte
}

// told is the file whose description data are, of those that the tests send.
func told(data []byte, files []api.File) (api.File, bool) {
	for _, f := range files {
		if bytes.Equal(data, head(f)) {
			return f, true
		}
	}
	return api.File{}, false
}

// readPart plays events to a receiver of layer 11 till it is over: what it answered to each that was played, and its data.
func readPart(r *receiver.Receiver, events []event) (outs [][]byte, data []byte, over bool, err error) {
	for _, e := range events {
		if e.tick {
			outs = append(outs, r.Tick())
		} else {
			outs = append(outs, r.Put(e.bytes...))
		}
		if over, err = r.Done(); over {
			return outs, r.Data(), true, err
		}
	}
	return outs, nil, false, nil
}

// judge is what becomes of a part that is over without an error.
func judge(k int, n *note, data []byte, files []api.File) {
	ok := false
	switch k {
	case 0:
		if n.file, ok = told(data, files); !ok {
			n.err = api.ErrArgument
		}
	case 1:
		if len(data) < n.file.Size {
			n.err = api.ErrLost
			return
		}
		n.data = data[:n.file.Size]
	case 2:
		n.err = nil
		if len(data) != 128 || data[0] != 0 {
			n.err = api.ErrArgument
		}
	}
}

// readReceiver is the chapter read another way: part by part, and the events of each part at once.
func readReceiver(c sender.Config, events []event, files []api.File) []note {
	var notes []note
	state := note{err: never}
	for k := 0; k < 3 && state.err == never; k++ {
		r := receiver.Of(c, byte(k%2), true, k == 1, 1)
		outs, data, over, err := readPart(r, events[len(notes):])
		for i, out := range outs {
			if i == len(outs)-1 && over {
				if state.err = err; err == nil {
					state.err = never
					judge(k, &state, data, files)
				}
			}
			notes = append(notes, note{out: out, err: state.err, file: state.file, data: state.data})
		}
	}
	state.out = nil
	for len(notes) < len(events) {
		notes = append(notes, state)
	}
	return notes
}

// followReceiver has events happen to a Receiver, and compares all with the reading.
func followReceiver(t *testing.T, name string, c sender.Config, events []event, files []api.File) {
	t.Helper()
	r := Take(c)
	for i, n := range readReceiver(c, events, files) {
		var got []byte
		if events[i].tick {
			got = r.Tick()
		} else {
			got = r.Put(events[i].bytes...)
		}
		says(t, name+", event "+strconv.Itoa(i), got, n.out)
		is(t, name+", event "+strconv.Itoa(i), r, n.err, n.file, n.data)
	}
}

// P13.2: every run of three events, ahead of, within and behind each part, against the reading.
func TestReceiverAllSmall(t *testing.T) {
	all := words("do012<>EX.t", 3)
	for _, size := range []int{0, 3, 129} {
		known := map[byte][]byte{}
		for _, letter := range "do01<>EX." {
			known[byte(letter)] = piece(t, byte(letter), size)
		}
		known['2'] = madeOf(t, 2, dataOf(128, 9), true)
		if size == 129 {
			known['2'] = piece(t, '2', size)
		}
		whole := "d12E0"
		for _, c := range []sender.Config{{Tries: 1, Wait: 1}, {Tries: 2, Wait: 2}} {
			for k := range len(whole) + 1 {
				for _, w := range all {
					var events []event
					for _, letter := range whole[:k] + w {
						events = append(events, event{letter == 't', known[byte(letter)]})
					}
					followReceiver(t, whole[:k]+w, c, events, []api.File{fileOf(size), other})
				}
			}
		}
	}
}

// whole is all that belongs to the transfer of a file of so many bytes.
func whole(t *testing.T, size int) [][]byte {
	t.Helper()
	list := [][]byte{madeOf(t, 0, head(fileOf(size)), true)}
	for k, part := range partsOf(dataOf(size, size)) {
		list = append(list, madeOf(t, byte(k+1), part, true))
	}
	return append(list, []byte{4}, madeOf(t, 0, make([]byte, 128), true))
}

// chance is events by chance that mostly go on: all that belongs to a transfer, some of it lost, altered, twice, cut, or with more around it.
func chance(t *testing.T, r *rand.Rand, size int) []event {
	var events []event
	say := func(b []byte) { events = append(events, event{bytes: b}) }
	for _, b := range whole(t, size) {
		for r.Intn(5) == 0 {
			events = append(events, event{tick: true})
		}
		switch r.Intn(16) {
		case 0:
			altered := bytes.Clone(b)
			altered[r.Intn(len(b))] ^= byte(1 + r.Intn(255))
			say(altered)
		case 1:
			continue
		case 2:
			say(b)
		case 3:
			cut := r.Intn(len(b) + 1)
			say(b[:cut])
			b = b[cut:]
		case 4:
			b = append(b, []byte{4, 24, 1, 24}[r.Intn(4):]...)
		case 5:
			say([]byte{24, 24}[r.Intn(2):])
		}
		say(b)
	}
	return events
}

// P13.2: transfers by chance, against the reading.
func TestReceiverChance(t *testing.T) {
	r := rand.New(rand.NewSource(14))
	for range 6000 {
		size := sizes[r.Intn(len(sizes))]
		c := sender.Config{Tries: r.Intn(12) - 1, Wait: r.Intn(6) - 1}
		followReceiver(t, "by chance", c, chance(t, r, size), []api.File{fileOf(size)})
	}
}

// W1: any bytes, in any parts: no answer is longer than two bytes.
func TestAnyBytes(t *testing.T) {
	r := rand.New(rand.NewSource(1))
	for range 2000 {
		got := Take(sender.Config{Tries: 2, Wait: 3})
		for _, event := range strings.Fields([]string{"", "d", "d 1 E"}[r.Intn(3)]) {
			do(t, got, event, 3)
		}
		for range 20 {
			b := make([]byte, r.Intn(1200))
			r.Read(b)
			if len(b) > 2 && r.Intn(2) == 0 {
				b[0], b[1], b[2] = byte(1+r.Intn(2)), byte(r.Intn(3)), byte(255-r.Intn(3))
			}
			if n := len(got.Put(b...)) + len(got.Tick()); n > 4 {
				t.Fatal(n, "bytes")
			}
		}
	}
}

// line has a Sender and a Receiver talk, tick by tick; noise turns what is sent. It is the ticks till both are over, at most 2000.
func line(s *Sender, r *Receiver, noise func([]byte) []byte) int {
	var answer []byte
	for tick := range 2000 {
		sent, _ := s.Done()
		taken, _ := r.Done()
		if sent && taken {
			return tick
		}
		answer = append(answer, r.Tick()...)
		down := s.Tick()
		for _, c := range answer {
			down = append(down, s.Put(c)...)
		}
		if len(down) > 0 {
			down = noise(down)
		}
		answer = r.Put(down...)
	}
	return 2000
}

// P13.1, P13.2: without noise a file is brought, in a tick for each block, and four.
func TestTransfer(t *testing.T) {
	for _, size := range sizes {
		s, r := made(t, sender.Config{Tries: 1, Wait: 2}, size), Take(sender.Config{Tries: 1, Wait: 2})
		ticks := line(s, r, func(b []byte) []byte { return b })
		over, err := s.Done()
		name := strconv.Itoa(size) + " bytes"
		ended(t, name, over, err, nil)
		is(t, name, r, nil, fileOf(size), dataOf(size, size))
		if want := len(partsOf(make([]byte, size))) + 4; ticks != want {
			t.Fatal(name, ticks, "ticks, want", want)
		}
	}
}

// P13.1, P13.2: with noise a file is brought if nothing is altered or lost as often as it is tried; whatever the noise is, a Receiver that is over without an error has the file.
func TestNoise(t *testing.T) {
	r := rand.New(rand.NewSource(15))
	for k := range 3000 {
		size := sizes[r.Intn(len(sizes))]
		s, got := made(t, sender.Config{Tries: 4, Wait: 9}, size), Take(sender.Config{Tries: 9, Wait: 5})
		again := 0
		line(s, got, func(b []byte) []byte {
			again++
			if again%4 == 0 && k%2 == 0 || r.Intn(2) == 0 {
				again = 0
				return b
			}
			if r.Intn(3) == 0 {
				return nil
			}
			b[min(len(b)-1, 1+r.Intn(140))] ^= 64
			return b
		})
		if k%2 == 0 {
			over, err := s.Done()
			ended(t, "with noise", over, err, nil)
			is(t, "with noise", got, nil, fileOf(size), dataOf(size, size))
		}
		if over, err := got.Done(); over && err == nil {
			is(t, "over", got, nil, fileOf(size), dataOf(size, size))
		}
	}
}
