package receiver

import (
	"bytes"
	"math"
	"math/rand"
	"slices"
	"strconv"
	"strings"
	"testing"

	"lifeline/api"
	"lifeline/block"
	"lifeline/sender"
)

// The signatures of the chapter, to the letter.
var (
	_ func(sender.Config, byte, bool, bool, int) *Receiver = Of
	_ func(*Receiver, ...byte) []byte                      = (*Receiver).Put
	_ func(*Receiver) []byte                               = (*Receiver).Tick
	_ func(*Receiver) (bool, error)                        = (*Receiver).Done
	_ func(*Receiver) []byte                               = (*Receiver).Data
)

// both are the two values of a switch.
var both = []bool{false, true}

// never is what the error of a Receiver is compared with that is not over.
const never = api.Errno(-1)

// The answers.
var (
	ack    = []byte{6}
	nak    = []byte{21}
	start  = []byte{'C'}
	cancel = []byte{24, 24}
)

// edges are ints about the limits, and the least and the greatest.
var edges = []int{math.MinInt, -100, -1, 0, 1, 2, 3, 8, 9, 10, 98, 99, 100, 1 << 40, math.MaxInt}

// limit is a number limited to a range, as the chapter's first words say.
func limit(n, most int) int {
	switch {
	case n < 1:
		return 1
	case n > most:
		return most
	}
	return n
}

// dataOf is so many bytes that differ from seed to seed.
func dataOf(size, seed int) []byte {
	data := make([]byte, size)
	for i := range data {
		data[i] = byte(i*7 + i/256*3 + seed*31 + 4)
	}
	return data
}

// madeOf is the encoding of a block with these data.
func madeOf(t *testing.T, number byte, data []byte, crc bool) []byte {
	t.Helper()
	b, ok := block.Make(api.Block{Number: number, Data: data}, crc)
	if !ok {
		t.Fatal("no block of", len(data), "bytes")
	}
	return b
}

// short is a block of 128 bytes.
func short(t *testing.T, number byte, crc bool) []byte {
	t.Helper()
	return madeOf(t, number, dataOf(128, int(number)), crc)
}

// is compares all that can be asked of a Receiver; err is never if it should not be over.
func is(t *testing.T, name string, r *Receiver, err error, data []byte) {
	t.Helper()
	over, got := r.Done()
	want := err
	if err == never {
		want = nil
	}
	if over != (err != never) || got != want {
		t.Fatalf("%s: Done = %v, %v, want %v", name, over, got, err)
	}
	if !bytes.Equal(r.Data(), data) {
		t.Fatalf("%s: Data has %d bytes, want %d, or others", name, len(r.Data()), len(data))
	}
}

// says compares an answer.
func says(t *testing.T, name string, got, want []byte) {
	t.Helper()
	if !bytes.Equal(got, want) {
		t.Fatalf("%s: answer % x, want % x", name, got, want)
	}
}

// dataFor is the data of the block that a letter stands for: 0 to 9 of 128 bytes, F of 128 with the number 255, a to j of 1024 bytes with the numbers 0 to 9.
func dataFor(letter byte) (number byte, data []byte) {
	switch {
	case letter >= '0' && letter <= '9':
		return letter - '0', dataOf(128, int(letter))
	case letter == 'F':
		return 255, dataOf(128, int(letter))
	}
	return letter - 'a', dataOf(1024, int(letter))
}

// piece is the bytes that a letter of an event stands for: a block (see dataFor), < and > the two parts of block 1, ! block 1 altered, _ no bytes, and single ones.
func piece(t *testing.T, letter byte, crc bool) []byte {
	t.Helper()
	number, data := dataFor('1')
	one := madeOf(t, number, data, crc)
	switch letter {
	case '_':
		return nil
	case '<':
		return one[:70]
	case '>':
		return one[70:]
	case '!':
		one[50] ^= 8
		return one
	}
	if k := strings.IndexByte("EXS.", letter); k >= 0 {
		return []byte{4, 24, 1, 'x'}[k : k+1]
	}
	number, data = dataFor(letter)
	return madeOf(t, number, data, crc)
}

// do has an event of a run happen: t is a tick, all others are letters of pieces that come in one go.
func do(t *testing.T, r *Receiver, event string, crc bool) []byte {
	t.Helper()
	if event == "t" {
		return r.Tick()
	}
	var b []byte
	for i := range len(event) {
		b = append(b, piece(t, event[i], crc)...)
	}
	return r.Put(b...)
}

// answer is what a letter of the answers of a run stands for.
func answer(letter byte) []byte {
	return map[byte][]byte{'-': nil, 'A': ack, 'N': nak, 'C': start, 'X': cancel}[letter]
}

// run is what happens to a Receiver, what it answers each time, and how it is in the end.
type run struct {
	tries, wait int
	number      byte
	crc, close  bool
	many        int
	events      string // with spaces between
	answers     string
	err         error
	data        string // the letters of the blocks whose data there are
}

// check has the run happen.
func (r run) check(t *testing.T) {
	t.Helper()
	got := Of(sender.Config{Tries: r.tries, Wait: r.wait}, r.number, r.crc, r.close, r.many)
	is(t, r.events, got, never, nil)
	events := strings.Fields(r.events)
	if len(events) != len(r.answers) {
		t.Fatalf("%s: %d events, %d answers", r.events, len(events), len(r.answers))
	}
	for i, event := range events {
		says(t, strings.Join(events[:i+1], " "), do(t, got, event, r.crc), answer(r.answers[i]))
	}
	var data []byte
	for i := range len(r.data) {
		_, d := dataFor(r.data[i])
		data = append(data, d...)
	}
	is(t, r.events, got, r.err, data)
}

// runs has runs happen.
func runs(t *testing.T, list []run) {
	t.Helper()
	for _, r := range list {
		r.check(t)
	}
}

// The chapter's example: the first tick asks for blocks with a CRC, and Eot ends it.
func TestExample(t *testing.T) {
	runs(t, []run{{3, 4, 1, true, true, 1, "t E", "CA", nil, ""}})
}

// P11.1: a new Receiver has received nothing and waits one tick; it asks as often as it has tries, and from then on every Wait ticks. Tries and Wait are limited.
func TestOf(t *testing.T) {
	for _, tries := range edges {
		for _, wait := range edges {
			for k := range 4 {
				crc := k%2 == 1
				asks := nak
				if crc {
					asks = start
				}
				r := Of(sender.Config{Tries: tries, Wait: wait}, byte(tries+wait), crc, k/2 == 1, wait)
				name := strconv.Itoa(tries) + " tries, " + strconv.Itoa(wait) + " ticks"
				is(t, name, r, never, nil)
				says(t, name+", the first tick", r.Tick(), asks)
				for range limit(tries, 9) - 1 {
					waits(t, name, r, limit(wait, 99), asks)
					is(t, name, r, never, nil)
				}
				waits(t, name, r, limit(wait, 99), cancel)
				is(t, name, r, api.ErrTries, nil)
			}
		}
	}
}

// waits has so many ticks go by, of which only the last one is answered.
func waits(t *testing.T, name string, r *Receiver, ticks int, want []byte) {
	t.Helper()
	for range ticks - 1 {
		says(t, name+", ahead of the last tick", r.Tick(), nil)
	}
	says(t, name+", the last tick", r.Tick(), want)
}

// P11.1, P11.2: of all numbers only the expected one is taken as the first one, also not the one before it.
func TestFirstNumber(t *testing.T) {
	blocks := make([][]byte, 256)
	for n := range blocks {
		blocks[n] = short(t, byte(n), false)
	}
	for expected := range 256 {
		for n := range 256 {
			r := Of(sender.Config{}, byte(expected), false, true, 1)
			name := strconv.Itoa(n) + " for " + strconv.Itoa(expected)
			if n == expected {
				says(t, name, r.Put(blocks[n]...), ack)
				is(t, name, r, never, dataOf(128, n))
				continue
			}
			says(t, name, r.Put(blocks[n]...), cancel)
			is(t, name, r, api.ErrArgument, nil)
		}
	}
}

// P11.2: behind a block the next number is taken, modulo 256, the same one is acknowledged once more, and all others end it.
func TestNextNumber(t *testing.T) {
	for first := range 256 {
		for _, step := range []int{0, 1, 2, 3, 127, 128, 129, 253, 254, 255} {
			r := Of(sender.Config{}, byte(first), true, true, 1)
			name := strconv.Itoa(step) + " behind " + strconv.Itoa(first)
			says(t, name, r.Put(short(t, byte(first), true)...), ack)
			data := dataOf(128, first)
			got := r.Put(madeOf(t, byte(first+step), dataOf(128, 999), true)...)
			switch step {
			case 0:
				says(t, name, got, ack)
				is(t, name, r, never, data)
			case 1:
				says(t, name, got, ack)
				is(t, name, r, never, append(data, dataOf(128, 999)...))
			default:
				says(t, name, got, cancel)
				is(t, name, r, api.ErrArgument, data)
			}
		}
	}
}

// P11.2: blocks in a row, their numbers going round, each repeated with other data and in another size: what was taken stays.
func TestMany(t *testing.T) {
	for _, number := range []byte{0, 1, 200, 255} {
		r := Of(sender.Config{Tries: 1, Wait: 1}, number, true, true, 1)
		var want []byte
		for k := range 600 {
			data := dataOf([]int{128, 1024, 128}[k%3], k)
			n := number + byte(k%256)
			says(t, "a block", r.Put(madeOf(t, n, data, true)...), ack)
			want = append(want, data...)
			if k%5 == 0 {
				says(t, "once more", r.Put(madeOf(t, n, dataOf(1024, k+1), true)...), ack)
				says(t, "and again", r.Put(madeOf(t, n, data, true)...), ack)
			}
			if k%50 == 0 {
				is(t, "a block", r, never, want)
			}
		}
		says(t, "the end", r.Put(4), ack)
		is(t, "the end", r, nil, want)
	}
}

// P11.2: without close it is over behind so many blocks, at least one; repetitions are not counted. With close the number says nothing.
func TestSoMany(t *testing.T) {
	for _, many := range []int{math.MinInt, -1, 0, 1, 2, 3, 7, 300, math.MaxInt} {
		for k := range 4 {
			again, close := k%2 == 1, k/2 == 1
			r := Of(sender.Config{}, 9, false, close, many)
			var want []byte
			for n := range 400 {
				name := "block " + strconv.Itoa(n) + " of " + strconv.Itoa(many)
				b := short(t, byte(9+n), false)
				says(t, name, r.Put(b...), ack)
				want = append(want, dataOf(128, int(byte(9+n)))...)
				if !close && n+1 == max(many, 1) {
					is(t, name, r, nil, want)
					says(t, name+", once more", r.Put(b...), nil)
					break
				}
				if again {
					says(t, name+", once more", r.Put(b...), ack)
				}
				is(t, name, r, never, want)
			}
		}
	}
}

// P11.2: Eot as the first byte, if it closes, whatever is behind it; it is no block otherwise.
func TestEot(t *testing.T) {
	runs(t, []run{
		{3, 4, 1, true, true, 1, "E", "A", nil, ""},
		{3, 4, 1, true, true, 1, "E.", "A", nil, ""},
		{3, 4, 1, true, true, 1, "EXX", "A", nil, ""},
		{3, 4, 1, true, true, 1, "E1", "A", nil, ""},
		{3, 4, 1, true, true, 1, "EE", "A", nil, ""},
		{3, 4, 1, true, true, 9, "1 2 E", "AAA", nil, "12"},
		{3, 4, 1, true, true, 1, "1E", "A", never, "1"},
		{3, 4, 1, true, true, 1, "1E E", "AA", nil, "1"},
		{3, 4, 1, true, true, 1, ".E", "N", never, ""},
		{3, 4, 1, true, true, 1, ".E E", "NA", nil, ""},
		{3, 4, 1, true, true, 1, "X E E", "-NA", nil, ""},
		{3, 4, 1, true, true, 1, "XE E", "NA", nil, ""},
		{3, 4, 1, true, true, 1, "< E", "--", never, ""},
		{3, 4, 1, true, true, 1, "S E E", "--N", never, ""},
		{3, 4, 1, true, true, 1, "S E E E", "--NA", nil, ""},
		{3, 4, 1, true, true, 1, "< t t t t E", "----CA", nil, ""},
		{3, 4, 1, true, true, 1, "t t E", "C-A", nil, ""},
		{3, 4, 1, true, false, 1, "E", "N", never, ""},
		{3, 4, 1, true, false, 1, "E1", "N", never, ""},
		{3, 4, 1, true, false, 1, "EXX", "N", never, ""},
		{3, 4, 1, true, false, 2, "1 E 2", "ANA", nil, "12"},
		{3, 4, 1, false, false, 1, "E E E E 1", "NNNNA", nil, "1"},
	})
}

// P11.2: two Cans as the first two bytes, in one go or not, whatever is behind them; one alone waits for the other.
func TestCancel(t *testing.T) {
	runs(t, []run{
		{3, 4, 1, true, true, 1, "X", "-", never, ""},
		{3, 4, 1, true, true, 1, "XX", "-", api.ErrCancel, ""},
		{3, 4, 1, true, true, 1, "X X", "--", api.ErrCancel, ""},
		{3, 4, 1, true, true, 1, "X _ X", "---", api.ErrCancel, ""},
		{3, 4, 1, true, true, 1, "XX1", "-", api.ErrCancel, ""},
		{3, 4, 1, true, true, 1, "XXE", "-", api.ErrCancel, ""},
		{3, 4, 1, true, true, 1, "X XE", "--", api.ErrCancel, ""},
		{3, 4, 1, true, true, 1, "X X.", "--", api.ErrCancel, ""},
		{3, 4, 1, true, true, 1, "XXXX", "-", api.ErrCancel, ""},
		{3, 4, 1, true, false, 1, "XX", "-", api.ErrCancel, ""},
		{3, 4, 1, true, false, 1, "X E", "-N", never, ""},
		{3, 4, 1, true, true, 1, "X.", "N", never, ""},
		{3, 4, 1, true, true, 1, "X . X", "-N-", never, ""},
		{3, 4, 1, true, true, 1, "X . X X", "-N--", api.ErrCancel, ""},
		{3, 4, 1, true, true, 1, "X.X X", "N-", never, ""},
		{3, 4, 1, true, true, 1, "X1 1", "NA", never, "1"},
		{3, 4, 1, true, true, 1, ".XX", "N", never, ""},
		{3, 4, 1, true, true, 1, ".XX XX", "N-", api.ErrCancel, ""},
		{3, 4, 1, true, true, 1, "S X X", "--N", never, ""},
		{3, 4, 1, true, true, 1, "<XX", "-", never, ""},
		{3, 4, 1, true, true, 1, "1 X X", "A--", api.ErrCancel, "1"},
		{3, 4, 1, true, true, 1, "1X X", "A-", never, "1"},
		{3, 4, 1, true, true, 1, "1X X X", "A--", api.ErrCancel, "1"},
		{3, 4, 1, true, true, 1, "1XX", "A", never, "1"},
		{3, 4, 1, true, true, 1, "!X X X", "N--", api.ErrCancel, ""},
		{3, 4, 1, true, true, 1, "X t t t X", "-----", api.ErrCancel, ""},
		{3, 4, 1, true, true, 1, "X t t t t X", "----C-", never, ""},
		{3, 4, 1, true, true, 1, "X t t t t X X", "----C--", api.ErrCancel, ""},
		{3, 4, 1, true, true, 1, "1 X t t t X", "A-----", api.ErrCancel, "1"},
		{3, 4, 1, true, true, 1, "1 X t t t t X E", "A----N-N", never, "1"},
	})
}

// P11.2: a single byte as the first one, with and without close, ahead of every block and behind one: a lead and Can wait, Eot may end it, all others are no block.
func TestFirstByte(t *testing.T) {
	for k := range 8 {
		crc, close, behind := k%2 == 1, k/2%2 == 1, k/4 == 1
		for c := range 256 {
			r := Of(sender.Config{}, 1, crc, close, 3)
			var data []byte
			if behind {
				says(t, "a block", r.Put(short(t, 1, crc)...), ack)
				data = dataOf(128, 1)
			}
			want, err := nak, error(never)
			switch {
			case c == 1 || c == 2 || c == 24:
				want = nil
			case c == 4 && close:
				want, err = ack, nil
			}
			name := "byte " + strconv.Itoa(c)
			says(t, name, r.Put(byte(c)), want)
			is(t, name, r, err, data)
		}
	}
}

// P11.2: every beginning of an encoding is answered by nothing, and the rest of it then by Ack.
func TestNeed(t *testing.T) {
	for k := range 4 {
		crc := k%2 == 1
		data := dataOf([]int{128, 1024}[k/2], 5)
		whole := madeOf(t, 7, data, crc)
		for i := 1; i < len(whole); i++ {
			r := Of(sender.Config{}, 7, crc, k/2 == 0, 1)
			name := strconv.Itoa(i) + " bytes of " + strconv.Itoa(len(whole))
			says(t, name, r.Put(whole[:i]...), nil)
			is(t, name, r, never, nil)
			says(t, name+", the rest", r.Put(whole[i:]...), ack)
			err := error(never)
			if k/2 == 1 {
				err = nil
			}
			is(t, name, r, err, data)
		}
	}
}

// P11.2: bytes that come one by one.
func TestOneByOne(t *testing.T) {
	for _, crc := range both {
		r := Of(sender.Config{Tries: 1, Wait: 2}, 255, crc, true, 1)
		var want []byte
		for n := range 30 {
			data := dataOf([]int{128, 1024}[n%2], n)
			whole := madeOf(t, byte(n-1), data, crc)
			for i, c := range whole {
				var answer []byte
				if i == len(whole)-1 {
					answer = ack
				}
				says(t, "a byte", r.Put(c), answer)
				says(t, "a tick", r.Tick(), nil)
			}
			want = append(want, data...)
			is(t, "a block", r, never, want)
		}
	}
}

// P11.2: each byte of an encoding altered, one at a time: a wrong number is told at once, wrong data and a wrong trailer when all of it is there; the block is taken when it comes once more.
func TestBad(t *testing.T) {
	for k := range 4 {
		crc := k%2 == 1
		data := dataOf([]int{128, 1024}[k/2], 5)
		whole := madeOf(t, 7, data, crc)
		for i := 1; i < len(whole); i++ {
			altered := bytes.Clone(whole)
			altered[i] ^= byte(1 << (i % 8))
			ends := len(whole)
			if i < 3 {
				ends = 3
			}
			r := Of(sender.Config{}, 7, crc, true, 1)
			name := "byte " + strconv.Itoa(i) + " altered"
			says(t, name, r.Put(altered[:ends-1]...), nil)
			says(t, name, r.Put(altered[ends-1]), nak)
			is(t, name, r, never, nil)
			says(t, name+", once more", r.Put(whole...), ack)
			is(t, name, r, never, data)
			says(t, name+", once more altered", r.Put(altered...), nak)
			says(t, name+", and again", r.Put(whole...), ack)
			is(t, name, r, never, data)
		}
	}
}

// P11.2: the trailer is that of the Receiver: of the other one a byte is too few, or it is wrong.
func TestTrailer(t *testing.T) {
	zero := append([]byte{1, 5, 250}, make([]byte, 128)...)
	data := make([]byte, 128)
	r := Of(sender.Config{}, 5, false, true, 1)
	says(t, "without a trailer", r.Put(zero...), nil)
	says(t, "a checksum", r.Put(0), ack)
	is(t, "a checksum", r, never, data)
	r = Of(sender.Config{}, 5, true, true, 1)
	says(t, "without a trailer", r.Put(zero...), nil)
	says(t, "half a CRC", r.Put(0), nil)
	says(t, "a CRC", r.Put(0), ack)
	is(t, "a CRC", r, never, data)
	r = Of(sender.Config{}, 5, false, true, 1)
	says(t, "a wrong checksum", r.Put(append(zero, 9)...), nak)
	r = Of(sender.Config{}, 5, true, true, 1)
	says(t, "a wrong CRC", r.Put(append(zero, 0, 9)...), nak)
	is(t, "a wrong CRC", r, never, nil)
}

// P11.2: what is behind a block is discarded with it, also a whole block, and so is what is behind what is no block.
func TestBehind(t *testing.T) {
	runs(t, []run{
		{3, 4, 1, true, true, 1, "12 3", "AX", api.ErrArgument, "1"},
		{3, 4, 1, true, true, 1, "12 2 3", "AAA", never, "123"},
		{3, 4, 1, true, true, 1, "11 2", "AA", never, "12"},
		{3, 4, 1, true, true, 1, "1. 2", "AA", never, "12"},
		{3, 4, 1, true, true, 1, "1< > 2", "ANA", never, "12"},
		{3, 4, 1, true, true, 1, "< >2 2", "-AA", never, "12"},
		{3, 4, 1, false, true, 1, "bc c", "AA", never, "bc"},
		{3, 4, 1, false, true, 1, "1b 2 c d", "AAAA", never, "12d"},
		{3, 4, 1, true, true, 1, "!1 1", "NA", never, "1"},
		{3, 4, 1, true, true, 1, ".1 1", "NA", never, "1"},
		{3, 4, 1, true, true, 1, ". 1", "NA", never, "1"},
		{3, 4, 1, true, true, 1, ".< > 1", "NNA", never, "1"},
		{3, 4, 1, true, false, 2, "12 2", "AA", nil, "12"},
		{3, 4, 1, true, false, 1, "1XX", "A", nil, "1"},
		{3, 4, 1, true, true, 1, "1 2E XX", "AA-", api.ErrCancel, "12"},
	})
}

// P11.2: numbers, worked out by hand: the number that is repeated goes with the expected one.
func TestNumbers(t *testing.T) {
	runs(t, []run{
		{3, 4, 1, true, true, 1, "0", "X", api.ErrArgument, ""},
		{3, 4, 0, true, true, 1, "F", "X", api.ErrArgument, ""},
		{3, 4, 0, true, true, 1, "0 0 1 1 2", "AAAAA", never, "012"},
		{3, 4, 0, true, true, 1, "0 F", "AX", api.ErrArgument, "0"},
		{3, 4, 255, true, true, 1, "F 0 1", "AAA", never, "F01"},
		{3, 4, 255, true, true, 1, "F F 0 0 F", "AAAAX", api.ErrArgument, "F0"},
		{3, 4, 1, true, true, 1, "1 0", "AX", api.ErrArgument, "1"},
		{3, 4, 1, true, true, 1, "1 3", "AX", api.ErrArgument, "1"},
		{3, 4, 1, true, true, 1, "1 2 1", "AAX", api.ErrArgument, "12"},
		{3, 4, 1, true, true, 1, "1 2 2 3 2", "AAAAX", api.ErrArgument, "123"},
		{3, 4, 1, true, true, 1, "! ! ! ! 0", "NNNNX", api.ErrArgument, ""},
		{3, 4, 1, true, true, 1, "1 b b 2 c 3", "AAAAAA", never, "123"},
		{3, 4, 1, false, false, 2, "1 1 1 2", "AAAA", nil, "12"},
		{3, 4, 1, false, false, 3, "b c 3", "AAA", nil, "bc3"},
		{3, 4, 1, false, false, 1, "2", "X", api.ErrArgument, ""},
		{3, 4, 1, false, false, 2, "1 3", "AX", api.ErrArgument, "1"},
	})
}

// P11.2, P11.3: ticks, worked out by hand: they begin anew with every byte, also one without effect, and not if there is none.
func TestTick(t *testing.T) {
	runs(t, []run{
		{2, 3, 1, true, true, 1, "t t t t t t t t", "C--C--X-", api.ErrTries, ""},
		{2, 3, 1, false, true, 1, "t t t t t t t t", "N--N--X-", api.ErrTries, ""},
		{1, 1, 1, true, true, 1, "t t", "CX", api.ErrTries, ""},
		{0, 0, 1, true, true, 1, "t t", "CX", api.ErrTries, ""},
		{-5, -5, 1, true, true, 1, "t t", "CX", api.ErrTries, ""},
		{10, 1, 1, true, true, 1, "t t t t t t t t t t", "CCCCCCCCCX", api.ErrTries, ""},
		{2, 3, 1, true, true, 1, "t t t . t t t", "C--N--C", never, ""},
		{2, 3, 1, true, true, 1, "t t t X t t t", "C-----C", never, ""},
		{2, 3, 1, true, true, 1, "t t t _ t t", "C---C-", never, ""},
		{2, 3, 1, true, true, 1, "_ t", "-C", never, ""},
		{2, 3, 1, true, true, 1, ". t t t", "N--C", never, ""},
		{2, 3, 1, true, true, 1, "< t t > t t t", "---A--N", never, "1"},
		{2, 3, 1, true, true, 1, "< t t t > 1", "---CNA", never, "1"},
		{2, 3, 1, true, true, 1, "< t t t 1", "---CA", never, "1"},
		{2, 3, 1, true, true, 1, "1 t t t t t t t t t t t t", "A--N--N--N--N", never, "1"},
		{1, 1, 1, true, true, 1, "t 1 t t t 2 t t", "CANNNANN", never, "12"},
		{2, 1, 1, true, true, 1, "t ! t . t", "CNCNX", api.ErrTries, ""},
		{2, 1, 1, true, true, 1, "t t 1 t t E", "CCANNA", nil, "1"},
		{2, 2, 1, true, true, 1, "1 t 1 t t", "A-A-N", never, "1"},
		{2, 2, 1, true, true, 1, "1 t 1 t . t 1 t t 2 t", "A-A-N-A-NA-", never, "12"},
		{2, 2, 1, true, true, 1, "1 < t t 2", "A--NA", never, "12"},
		{2, 2, 1, true, true, 1, "1 < t t > 2", "A--NNA", never, "12"},
		{2, 2, 1, true, true, 1, "1 t t E", "A-NA", nil, "1"},
		{2, 2, 1, true, false, 2, "1 t t t t 2", "A-N-NA", nil, "12"},
	})
}

// P11.3: behind a block it asks without end: the tries are those of the first one alone.
func TestAsksWithoutEnd(t *testing.T) {
	for _, crc := range both {
		for tries := range 4 {
			r := Of(sender.Config{Tries: tries, Wait: 2}, 1, crc, true, 1)
			r.Tick()
			says(t, "a block", r.Put(short(t, 1, crc)...), ack)
			for range 1000 {
				waits(t, "behind a block", r, 2, nak)
			}
			is(t, "behind a block", r, never, dataOf(128, 1))
			says(t, "the next one", r.Put(short(t, 2, crc)...), ack)
		}
	}
}

// P11.2, P11.3: once it is over no call has an effect.
func TestOver(t *testing.T) {
	for _, r := range []run{
		{2, 2, 1, true, true, 1, "E", "A", nil, ""},
		{2, 2, 1, true, true, 1, "1 E", "AA", nil, "1"},
		{2, 2, 1, true, false, 1, "1", "A", nil, "1"},
		{2, 2, 1, true, true, 1, "XX", "-", api.ErrCancel, ""},
		{2, 2, 1, true, true, 1, "1 X X", "A--", api.ErrCancel, "1"},
		{2, 2, 1, true, true, 1, "1 3", "AX", api.ErrArgument, "1"},
		{1, 1, 1, true, true, 1, "t t", "CX", api.ErrTries, ""},
	} {
		r.check(t)
		r.events += " _ t 1 2 0 E X X XX . t t t t < > ! 1 2 3 E EE XX t t t t"
		for len(r.answers) < len(strings.Fields(r.events)) {
			r.answers += "-"
		}
		r.check(t)
	}
}

// model is the chapter read another way: all that was put since the last discard, a count of ticks upward, and what was taken as a list.
type model struct {
	number byte // of the first block
	crc    bool
	close  bool
	many   int
	asks   int // how often the first block may still be asked for
	wait   int
	idle   int // ticks since something happened
	until  int // how many of these are waited for
	bytes  []byte
	taken  [][]byte
	err    error
}

// modelOf is the model of a new Receiver.
func modelOf(c sender.Config, number byte, crc, close bool, many int) *model {
	return &model{number: number, crc: crc, close: close, many: max(1, many), asks: limit(c.Tries, 9), wait: limit(c.Wait, 99), until: 1, err: never}
}

// begun is the size of the block whose lead comes first; 0 if it is none, or not that of one of its number.
func (m *model) begun() int {
	size := map[byte]int{1: 128, 2: 1024}[m.bytes[0]]
	if size == 0 || len(m.bytes) > 2 && m.bytes[1]+m.bytes[2] != 255 {
		return 0
	}
	return size
}

// end ends it.
func (m *model) end(err error, answer []byte) []byte {
	m.err = err
	return answer
}

// put takes bytes.
func (m *model) put(t *testing.T, b []byte) []byte {
	t.Helper()
	if m.err != never || len(b) == 0 {
		return nil
	}
	m.idle, m.until = 0, m.wait
	m.bytes = append(m.bytes, b...)
	two := append(bytes.Clone(m.bytes), 0)[:2]
	switch {
	case two[0] == 4 && m.close:
		return m.end(nil, ack)
	case two[0] == 24 && two[1] == 24:
		return m.end(api.ErrCancel, nil)
	case two[0] == 24 && len(m.bytes) == 1:
		return nil
	}
	size, trailer := m.begun(), 1
	if m.crc {
		trailer = 2
	}
	if size > 0 && len(m.bytes) < 3+size+trailer {
		return nil
	}
	all := m.bytes
	m.bytes = nil
	if size == 0 || !bytes.HasPrefix(all, madeOf(t, all[1], all[3:3+size], m.crc)) {
		return nak
	}
	return m.take(all[1], all[3:3+size])
}

// take takes a block.
func (m *model) take(number byte, data []byte) []byte {
	switch ahead := number - m.number - byte(len(m.taken)%256); {
	case ahead == 0:
		m.taken = append(m.taken, data)
	case ahead < 255 || m.taken == nil:
		return m.end(api.ErrArgument, cancel)
	}
	if !m.close && len(m.taken) == m.many {
		m.err = nil
	}
	return ack
}

// tick has a tick go by.
func (m *model) tick() []byte {
	if m.err != never {
		return nil
	}
	m.idle++
	if m.idle < m.until {
		return nil
	}
	m.idle, m.until, m.bytes = 0, m.wait, nil
	switch {
	case m.taken != nil:
		return nak
	case m.asks == 0:
		return m.end(api.ErrTries, cancel)
	}
	m.asks--
	if m.crc {
		return start
	}
	return nak
}

// same has an event happen to both, and compares all that can be asked.
func same(t *testing.T, name string, r *Receiver, m *model, tick bool, b []byte) {
	t.Helper()
	if tick {
		says(t, name, r.Tick(), m.tick())
	} else {
		says(t, name, r.Put(b...), m.put(t, b))
	}
	is(t, name, r, m.err, bytes.Join(m.taken, nil))
}

// words are all words of the letters of a given length.
func words(letters string, length int) []string {
	list := []string{""}
	for range length {
		var longer []string
		for _, w := range list {
			for _, c := range letters {
				longer = append(longer, w+string(c))
			}
		}
		list = longer
	}
	return list
}

// P11.2, P11.3: every run of four events, for all small Receivers, against the model.
func TestAllSmall(t *testing.T) {
	letters := "012<>EX.t"
	all := words(letters, 4)
	for k := range 32 {
		c := sender.Config{Tries: 1 + k/8%2, Wait: 1 + k/16}
		crc, close, many := k%2 == 1, k/2%2 == 1, 1+k/4%2
		pieces := map[byte][]byte{}
		for i := range len(letters) - 1 {
			pieces[letters[i]] = piece(t, letters[i], crc)
		}
		for _, w := range all {
			r := Of(c, 1, crc, close, many)
			m := modelOf(c, 1, crc, close, many)
			for i := range len(w) {
				same(t, w[:i+1], r, m, w[i] == 't', pieces[w[i]])
			}
		}
	}
}

// likely is bytes by chance: mostly a block that may be expected, in parts, altered, or with more behind it.
func likely(t *testing.T, r *rand.Rand, m *model) []byte {
	number := m.number + byte(len(m.taken))
	switch r.Intn(12) {
	case 0, 1:
		number--
	case 2:
		number += byte(r.Intn(4))
	}
	b := madeOf(t, number, dataOf([]int{128, 128, 128, 1024}[r.Intn(4)], r.Intn(99)), m.crc)
	switch r.Intn(8) {
	case 0:
		b[r.Intn(len(b))] ^= byte(1 + r.Intn(255))
	case 1:
		b = append(b, byte(r.Intn(256)), 4)
	case 2:
		b = b[:r.Intn(len(b))]
	case 3:
		b = []byte{4, 24, 1, 2, 6, byte(r.Intn(256))}[r.Intn(6):]
	case 4:
		b = slices.Repeat([]byte{24}, 1+r.Intn(2))
	}
	return b
}

// chance is a run by chance.
func chance(t *testing.T, r *rand.Rand) {
	c := sender.Config{Tries: r.Intn(12) - 1, Wait: r.Intn(6) - 1}
	number, crc, close, many := byte(r.Intn(256)), r.Intn(2) == 1, r.Intn(2) == 1, r.Intn(8)-1
	got, m := Of(c, number, crc, close, many), modelOf(c, number, crc, close, many)
	for range 40 {
		if r.Intn(3) == 0 {
			same(t, "by chance", got, m, true, nil)
			continue
		}
		b := likely(t, r, m)
		for len(b) > 0 {
			part := len(b)
			if r.Intn(4) == 0 {
				part = r.Intn(len(b) + 1)
			}
			same(t, "by chance", got, m, false, b[:part])
			b = b[part:]
		}
	}
}

// P11.2, P11.3: long runs by chance against the model.
func TestChance(t *testing.T) {
	r := rand.New(rand.NewSource(11))
	for range 8000 {
		chance(t, r)
	}
}

// W1: bytes by chance, also long ones, and many short ones, in any parts.
func TestAnyBytes(t *testing.T) {
	r := rand.New(rand.NewSource(1))
	for range 3000 {
		crc, close := r.Intn(2) == 1, r.Intn(2) == 1
		got, m := Of(sender.Config{Wait: 3}, 1, crc, close, 1), modelOf(sender.Config{Wait: 3}, 1, crc, close, 1)
		for range 20 {
			b := make([]byte, r.Intn(1200))
			r.Read(b)
			if len(b) > 2 && r.Intn(2) == 0 {
				b[0], b[1], b[2] = byte(1+r.Intn(2)), byte(r.Intn(3)), byte(255-r.Intn(3))
			}
			same(t, "any bytes", got, m, false, b)
		}
	}
}

// W1: a great many bytes in one go are one answer.
func TestLong(t *testing.T) {
	for _, crc := range both {
		b := slices.Repeat(short(t, 1, crc), 1<<14)
		r := Of(sender.Config{}, 1, crc, true, 1)
		says(t, "blocks", r.Put(b...), ack)
		is(t, "blocks", r, never, dataOf(128, 1))
		says(t, "zero bytes", r.Put(make([]byte, 1<<21)...), nak)
		says(t, "an end", r.Put(append([]byte{4}, b...)...), ack)
		is(t, "an end", r, nil, dataOf(128, 1))
	}
}

// A whole transfer with a Sender of layer 10: as it is without noise, and with the first answer to each block lost.
func TestTransfer(t *testing.T) {
	for k := range 8 {
		crc, close, lose := k%2 == 1, k/2%2 == 1, k/4 == 1
		parts := block.Split(dataOf(5000, 3), crc)
		s := sender.Of(sender.Config{Tries: 2, Wait: 9}, block.Number(parts), crc, close)
		r := Of(sender.Config{Tries: 1, Wait: 2}, 1, crc, close, len(parts))
		var up []byte
		taken := 0
		for range 200 {
			var down []byte
			for _, c := range append(up, r.Tick()...) {
				down = append(down, s.Put(c)...)
			}
			up = r.Put(down...)
			if over, _ := r.Done(); lose && !over && len(r.Data()) > taken {
				up = nil
			}
			taken = len(r.Data())
		}
		if over, err := s.Done(); !over || err != nil || s.Sent() != len(parts) {
			t.Error("the Sender:", over, err, s.Sent())
		}
		is(t, "the Receiver", r, nil, slices.Concat(parts...))
	}
}

// W6: bytes that are put are not retained: what is done to them later does nothing, neither to a part of a block nor to a whole one.
func TestBytesNotRetained(t *testing.T) {
	whole := short(t, 1, true)
	r := Of(sender.Config{Wait: 9}, 1, true, true, 1)
	for _, part := range [][]byte{whole[:1], whole[1:60], whole[60:100]} {
		b := bytes.Clone(part)
		says(t, "a part", r.Put(b...), nil)
		clear(b)
	}
	b := bytes.Clone(whole[100:])
	says(t, "the rest", r.Put(b...), ack)
	clear(b)
	is(t, "the rest", r, never, dataOf(128, 1))
	b = short(t, 2, true)
	says(t, "a whole block", r.Put(b...), ack)
	clear(b)
	is(t, "a whole block", r, never, append(dataOf(128, 1), dataOf(128, 2)...))
}

// W6: bytes that are put are not modified, nor is anything written behind them.
func TestBytesNotModified(t *testing.T) {
	room := append(short(t, 1, true), 1, 2, 3)
	want := bytes.Clone(room)
	r := Of(sender.Config{Wait: 9}, 1, true, true, 1)
	says(t, "a part", r.Put(room[:60]...), nil)
	says(t, "other bytes", r.Put(slices.Repeat([]byte{77}, 20)...), nil)
	waits(t, "ticks", r, 9, start)
	says(t, "a whole block", r.Put(room[:len(room)-3]...), ack)
	says(t, "two Cans", r.Put(24, 24), nil)
	if !bytes.Equal(room, want) {
		t.Fatal("the bytes were modified")
	}
}

// spoil writes to bytes, and behind them as far as there is room.
func spoil(b []byte) {
	b = b[:cap(b)]
	for i := range b {
		b[i] = 99
	}
}

// W6: Data is new each time: whoever gets it may write to it, and behind it.
func TestDataApart(t *testing.T) {
	r := Of(sender.Config{}, 0, true, true, 1)
	var want []byte
	for n := range 20 {
		says(t, "a block", r.Put(short(t, byte(n), true)...), ack)
		want = append(want, dataOf(128, n)...)
		first := r.Data()
		spoil(r.Data())
		is(t, "spoiled", r, never, want)
		if !bytes.Equal(first, want) {
			t.Fatal("two Datas share memory")
		}
	}
	kept := r.Data()
	says(t, "another block", r.Put(short(t, 20, true)...), ack)
	if !bytes.Equal(kept, want) {
		t.Fatal("Data changed later")
	}
}

// W6: answers are new each time.
func TestAnswersApart(t *testing.T) {
	for range 3 {
		for _, crc := range both {
			list := []struct{ event, want string }{{"t", "N"}, {".", "N"}, {"1", "A"}, {"1", "A"}, {"!", "N"}, {"t", "N"}, {"E", "A"}}
			if crc {
				list[0].want = "C"
			}
			r := Of(sender.Config{Wait: 1}, 1, crc, true, 1)
			for _, e := range list {
				got := do(t, r, e.event, crc)
				says(t, e.event, got, answer(e.want[0]))
				spoil(got)
			}
			for _, event := range []string{"t", "0"} {
				r = Of(sender.Config{Tries: 1, Wait: 1}, 1, crc, true, 1)
				spoil(r.Tick())
				got := do(t, r, event, crc)
				says(t, event, got, cancel)
				spoil(got)
			}
		}
	}
}

// W2: two Receivers know nothing of each other, whatever the order of their calls.
func TestTwo(t *testing.T) {
	a := Of(sender.Config{Tries: 2, Wait: 2}, 1, true, true, 1)
	b := Of(sender.Config{Tries: 1, Wait: 1}, 4, false, false, 2)
	says(t, "a", a.Tick(), start)
	says(t, "b", b.Tick(), nak)
	one, four := short(t, 1, true), short(t, 4, false)
	says(t, "a", a.Put(one[:9]...), nil)
	says(t, "b", b.Put(four[:50]...), nil)
	says(t, "a", a.Put(one[9:]...), ack)
	is(t, "b", b, never, nil)
	says(t, "b", b.Put(four[50:]...), ack)
	says(t, "b", b.Tick(), nak)
	says(t, "a", a.Put(24), nil)
	says(t, "b", b.Put(24, 24), nil)
	is(t, "a", a, never, dataOf(128, 1))
	is(t, "b", b, api.ErrCancel, dataOf(128, 4))
}

// W1: of a Receiver that Of did not make nothing is promised but that no call panics.
func TestZero(t *testing.T) {
	for _, w := range words("01<EXt", 4) {
		var r Receiver
		for i := range len(w) {
			do(t, &r, w[i:i+1], false)
			r.Done()
			r.Data()
		}
	}
}
