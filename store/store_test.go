package store

import (
	"bytes"
	"math"
	"math/big"
	"math/rand"
	"slices"
	"sync"
	"testing"
	"unsafe"

	"lifeline/sum"
)

// size is how many bytes the chapter names.
const size = 16384

// The signatures of the chapter, to the letter.
var (
	_ func(*Store, int, []byte) bool        = (*Store).Write
	_ func(*Store, int, int) ([]byte, bool) = (*Store).Read
	_ func(*Store, int, int) (uint32, bool) = (*Store).Print
)

// Numbers about which an address or a number of bytes might go wrong: the second half makes sums that wrap around.
var edges = []int{
	0, 1, 2, 3, 127, 128, 8191, 8192, 8193, 16381, 16382, 16383, 16384, 16385, 16386, 32767, 32768, 65535, 65536,
	-1, -2, -3, -128, -16383, -16384, -16385, -65536,
	math.MaxInt8, math.MaxInt16, math.MaxInt32, math.MaxInt32 + 1, math.MaxUint32, math.MaxUint32 + 1, math.MaxUint32 + 16384,
	math.MinInt16, math.MinInt32, math.MinInt32 - 1, -math.MaxUint32 - 1, -math.MaxUint32 + 16383,
	math.MaxInt, math.MaxInt - 1, math.MaxInt - 16383, math.MaxInt - 16384, math.MaxInt - 16385,
	math.MinInt, math.MinInt + 1, math.MinInt + 16383, math.MinInt + 16384, math.MinInt + 16385,
}

// fits is the chapter's condition, with a sum that has no end.
func fits(addr, n int) bool {
	total := new(big.Int).Add(big.NewInt(int64(addr)), big.NewInt(int64(n)))
	return addr >= 0 && n >= 0 && total.Cmp(big.NewInt(size)) <= 0
}

// printed is the fingerprint of bytes in its closed form: each byte counts once in s, and in t once for itself and for each byte behind it.
func printed(b []byte) uint32 {
	var s, t uint64
	for i, c := range b {
		s += uint64(c)
		t += uint64(c)*uint64(len(b)-i) + 1
	}
	return uint32(t%65521)*65536 + uint32(s%65521)
}

// count is n bytes of which neighbours differ, and so do those that are 256 apart.
func count(c byte, n int) []byte {
	b := make([]byte, n)
	for i := range b {
		b[i] = c + byte(i) + byte(i>>8)
	}
	return b
}

// whole tells whether all bytes of a Store are the wanted ones, in the answers of Read and of Print.
func whole(t *testing.T, what string, s *Store, want []byte) {
	t.Helper()
	b, ok := s.Read(0, size)
	if !ok || len(b) != size {
		t.Fatalf("%s: Read of all: %d bytes, %t", what, len(b), ok)
	}
	for at := range b {
		if b[at] != want[at] {
			t.Fatalf("%s: %#x at %d, not %#x", what, b[at], at, want[at])
		}
	}
	if p, ok := s.Print(0, size); p != printed(want) || !ok {
		t.Fatalf("%s: Print of all: %#x, %t, not %#x", what, p, ok, printed(want))
	}
}

// asks asks for n bytes at an address in both ways, and holds the answers against the wanted bytes of the memory.
func asks(t *testing.T, s *Store, addr, n int, all []byte) {
	t.Helper()
	b, ok := s.Read(addr, n)
	p, printOk := s.Print(addr, n)
	if !fits(addr, n) {
		if len(b) != 0 || ok || p != 0 || printOk {
			t.Fatalf("%d bytes at %d: Read %d bytes, %t; Print %#x, %t", n, addr, len(b), ok, p, printOk)
		}
		return
	}
	want := all[addr : addr+n]
	if !ok || !bytes.Equal(b, want) {
		t.Fatalf("%d bytes at %d: Read %.8x (%d), %t, not %.8x", n, addr, b, len(b), ok, want)
	}
	if !printOk || p != printed(want) {
		t.Fatalf("%d bytes at %d: Print %#x, %t, not %#x", n, addr, p, printOk, printed(want))
	}
}

// full is a Store with a byte of count at each place.
func full(t *testing.T) (*Store, []byte) {
	t.Helper()
	s, all := new(Store), count(1, size)
	if !s.Write(0, all) {
		t.Fatal("Write of all")
	}
	return s, slices.Clone(all)
}

// P19.1: the example of the chapter.
func TestExample(t *testing.T) {
	var s Store
	if s.Write(16383, []byte{1, 2}) {
		t.Error("two bytes at 16383")
	}
	whole(t, "two bytes at 16383", &s, make([]byte, size))
}

// P19.1: the zero Store contains 16384 zero bytes, and no more.
func TestZero(t *testing.T) {
	zero := make([]byte, size)
	var s Store
	whole(t, "var", &s, zero)
	whole(t, "new", new(Store), zero)
	whole(t, "&Store{}", &Store{}, zero)
	for at := range size {
		if b, ok := s.Read(at, 1); !ok || len(b) != 1 || b[0] != 0 {
			t.Fatalf("Read(%d, 1): %v, %t", at, b, ok)
		}
		if p, ok := s.Print(at, 1); p != 65536 || !ok {
			t.Fatalf("Print(%d, 1): %#x, %t", at, p, ok)
		}
	}
	// Each byte adds one to t alone.
	if p, ok := s.Print(0, size); p != 16384*65536 || !ok {
		t.Errorf("Print of all: %#x, %t", p, ok)
	}
	for _, addr := range edges {
		for _, n := range edges {
			asks(t, &s, addr, n, zero)
		}
	}
}

// P19.1: what is written can be read, where it was written and nowhere else.
func TestWrite(t *testing.T) {
	for _, c := range []struct {
		addr int
		text string
	}{
		{0, "a"},
		{0, "abc"},
		{1, "abc"},
		{127, "abc"},
		{255, "abc"},
		{256, "\x00\xff\x80"},
		{8191, "abcdef"},
		{16380, "abc"},
		{16381, "abc"},
		{16382, "ab"},
		{16383, "a"},
	} {
		var s Store
		if !s.Write(c.addr, []byte(c.text)) {
			t.Fatalf("%q at %d", c.text, c.addr)
		}
		if b, ok := s.Read(c.addr, len(c.text)); string(b) != c.text || !ok {
			t.Errorf("%q at %d: %q, %t", c.text, c.addr, b, ok)
		}
		want := make([]byte, size)
		copy(want[c.addr:], c.text)
		whole(t, c.text, &s, want)
	}
}

// P19.1: each number of bytes up to all of them, at the first and at the last address where they fit; one byte further on they do not.
func TestWriteSizes(t *testing.T) {
	for n := range size + 3 {
		if n > 300 && n < size-3 && n%61 != 0 {
			continue
		}
		b := count(byte(n), n)
		for _, addr := range []int{-1, 0, 1, size - n - 1, size - n, size - n + 1} {
			s, all := full(t)
			ok := s.Write(addr, b)
			if ok != fits(addr, n) {
				t.Fatalf("%d bytes at %d: %t", n, addr, ok)
			}
			if ok {
				copy(all[addr:], b)
			}
			if got, _ := s.Read(0, size); !bytes.Equal(got, all) {
				t.Fatalf("%d bytes at %d: the memory is wrong", n, addr)
			}
		}
	}
}

// P19.1: each address, one byte and some.
func TestWriteAddresses(t *testing.T) {
	var s Store
	all := make([]byte, size)
	for _, b := range [][]byte{{7}, {1, 2}, {3, 0, 4}, {}, count(9, 128)} {
		for addr := -3; addr < size+4; addr++ {
			if ok := s.Write(addr, b); ok != fits(addr, len(b)) {
				t.Fatalf("%d bytes at %d: %t", len(b), addr, ok)
			}
			if fits(addr, len(b)) {
				copy(all[addr:], b)
			}
			if addr%1024 < 2 || addr > size-4 {
				whole(t, "each address", &s, all)
			}
		}
	}
}

// P19.1: the bytes of b count, and not how many more there is room for behind them.
func TestWriteOfPart(t *testing.T) {
	room := count(1, size+1)
	for _, n := range []int{0, 1, 2, 3, 100} {
		var s Store
		if s.Write(size-n+1, room[:n]) {
			t.Errorf("%d of many bytes, one too far", n)
		}
		if !s.Write(size-n, room[:n]) {
			t.Errorf("%d of many bytes at the end", n)
		}
		if !s.Write(7, room[:n]) {
			t.Errorf("%d of many bytes at 7", n)
		}
		want := make([]byte, size)
		copy(want[size-n:], room[:n])
		copy(want[7:], room[:n])
		whole(t, "a part", &s, want)
	}
}

// P19.1: Write returns false for an address that is negative or too great, also without bytes, and has no effect then.
func TestWriteEdges(t *testing.T) {
	s, all := full(t)
	for _, addr := range edges {
		for _, n := range []int{0, 1, 2, 3, 127, 128, 8191, 8192, 8193, 16381, 16382, 16383, 16384, 16385, 16386, 32768, 65536, 65537, 1 << 20} {
			b := bytes.Repeat([]byte{0xee}, n)
			if fits(addr, n) {
				other := *s
				want := slices.Clone(all)
				copy(want[addr:], b)
				if !other.Write(addr, b) {
					t.Fatalf("%d bytes at %d: false", n, addr)
				}
				whole(t, "written", &other, want)
				continue
			}
			if s.Write(addr, b) {
				t.Fatalf("%d bytes at %d: true", n, addr)
			}
			if got, _ := s.Read(0, size); !bytes.Equal(got, all) {
				t.Fatalf("%d bytes at %d had an effect", n, addr)
			}
		}
	}
	for _, c := range []struct {
		addr int
		want bool
	}{
		{math.MinInt, false}, {-1, false}, {0, true}, {1, true}, {16383, true}, {16384, true}, {16385, false}, {math.MaxInt, false},
	} {
		if got := s.Write(c.addr, nil); got != c.want {
			t.Errorf("nil at %d: %t", c.addr, got)
		}
		if got := s.Write(c.addr, []byte{}); got != c.want {
			t.Errorf("no bytes at %d: %t", c.addr, got)
		}
	}
	whole(t, "no bytes", s, all)
}

// P19.1: bytes are written over those that were there, zero bytes too, and the others stay.
func TestWriteOver(t *testing.T) {
	var s Store
	for _, c := range []struct {
		addr int
		text string
		want string // from address 0 on
	}{
		{2, "bcd", "\x00\x00bcd\x00"},
		{3, "xyz", "\x00\x00bxyz\x00"},
		{0, "abc", "abcxyz\x00"},
		{1, "", "abcxyz\x00"},
		{4, "\x00", "abcx\x00z\x00"},
		{0, "\x00\x00\x00\x00", "\x00\x00\x00\x00\x00z\x00"},
		{0, "abcdefgh", "abcdefgh\x00"},
		{-1, "123", "abcdefgh\x00"},
		{7, "12", "abcdefg12\x00"},
	} {
		s.Write(c.addr, []byte(c.text))
		if b, ok := s.Read(0, len(c.want)); string(b) != c.want || !ok {
			t.Errorf("%q at %d: %q, %t", c.text, c.addr, b, ok)
		}
	}
}

// P19.1: Read and Print tell by the same condition whether there are so many bytes: negative numbers, sums that are too great and such that wrap around.
func TestEdges(t *testing.T) {
	s, all := full(t)
	for _, addr := range edges {
		for _, n := range edges {
			asks(t, s, addr, n, all)
		}
	}
	for _, c := range []struct {
		addr, n int
		want    bool
	}{
		{0, 0, true},
		{0, 16384, true},
		{0, 16385, false},
		{1, 16383, true},
		{1, 16384, false},
		{16383, 1, true},
		{16383, 2, false},
		{16384, 0, true},
		{16384, 1, false},
		{16385, 0, false},
		{16385, -1, false},
		{-1, 0, false},
		{-1, 1, false},
		{-1, 2, false},
		{0, -1, false},
		{1, -1, false},
		{16384, -16384, false},
		{-16384, 16384, false},
		{math.MaxInt, 0, false},
		{math.MaxInt, 1, false},
		{math.MaxInt, math.MaxInt, false},
		{math.MaxInt, math.MinInt, false},
		{math.MinInt, math.MinInt, false},
		{math.MinInt, 0, false},
		{0, math.MaxInt, false},
		{1, math.MaxInt, false},
		{16384, math.MaxInt, false},
		{0, math.MinInt, false},
	} {
		if _, ok := s.Read(c.addr, c.n); ok != c.want {
			t.Errorf("Read(%d, %d): %t", c.addr, c.n, ok)
		}
		if _, ok := s.Print(c.addr, c.n); ok != c.want {
			t.Errorf("Print(%d, %d): %t", c.addr, c.n, ok)
		}
	}
	whole(t, "asked", s, all)
}

// P19.1: each address with some numbers of bytes, and each number at some addresses.
func TestEachPlace(t *testing.T) {
	s, all := full(t)
	for addr := -3; addr < size+4; addr++ {
		for _, n := range []int{-1, 0, 1, 2, 7, size - addr - 1, size - addr, size - addr + 1} {
			if n < 100 || addr%53 == 0 {
				asks(t, s, addr, n, all)
			}
		}
	}
	for n := -3; n < size+4; n++ {
		for _, addr := range []int{0, 1, 8000, size - n - 1, size - n, size - n + 1} {
			if n < 100 || n%53 == 0 || n > size-5 {
				asks(t, s, addr, n, all)
			}
		}
	}
}

// P19.1: Print of bytes, worked out by hand.
func TestPrint(t *testing.T) {
	var s Store
	s.Write(100, []byte("abc"))
	for _, c := range []struct {
		addr, n int
		want    uint32
	}{
		{100, 0, 0},
		{100, 1, 98*65536 + 97},
		{100, 2, 294*65536 + 195},
		{100, 3, 589*65536 + 294},
		{101, 2, 297*65536 + 197},
		{99, 4, 590*65536 + 294},
		{100, 4, 884*65536 + 294},
		{90, 10, 10 * 65536},
		{103, 5, 5 * 65536},
		{16384, 0, 0},
	} {
		if p, ok := s.Print(c.addr, c.n); p != c.want || !ok {
			t.Errorf("Print(%d, %d): %#x, %t, not %#x", c.addr, c.n, p, ok, c.want)
		}
	}
	// Both numbers of the fingerprint go round.
	s.Write(0, bytes.Repeat([]byte{255}, size))
	for _, n := range []int{1, 22, 23, 256, 257, 258, 1024, 16383, 16384} {
		b := bytes.Repeat([]byte{255}, n)
		if p, ok := s.Print(size-n, n); p != sum.Print(b) || p != printed(b) || !ok {
			t.Errorf("%d bytes of 255: %#x, %t", n, p, ok)
		}
	}
}

// P19.1: runs of writings and readings by chance, half of them at either end of the memory, against a list of bytes.
func TestChance(t *testing.T) {
	r := rand.New(rand.NewSource(19))
	place := func() int {
		switch r.Intn(8) {
		case 0:
			return edges[r.Intn(len(edges))]
		case 1, 2:
			return size - r.Intn(40) + 3
		case 3, 4:
			return r.Intn(40) - 3
		default:
			return r.Intn(size)
		}
	}
	for range 60 {
		var s Store
		all := make([]byte, size)
		for range 200 {
			addr := place()
			b := make([]byte, min(max(place(), 0), r.Intn(2*size)+1))
			r.Read(b)
			if ok := s.Write(addr, b); ok != fits(addr, len(b)) {
				t.Fatalf("%d bytes at %d: %t", len(b), addr, ok)
			}
			if fits(addr, len(b)) {
				copy(all[addr:], b)
			}
			asks(t, &s, place(), r.Intn(50), all)
			asks(t, &s, place(), place(), all)
		}
		whole(t, "by chance", &s, all)
	}
}

// W6: Write neither modifies nor retains its bytes, nor those behind them.
func TestWriteKeepsNothing(t *testing.T) {
	var s Store
	room := []byte("abcdefgh")
	b := room[2:4]
	if !s.Write(5, b) || string(room) != "abcdefgh" {
		t.Fatalf("%q", room)
	}
	if s.Write(16383, b) || string(room) != "abcdefgh" {
		t.Fatalf("%q", room)
	}
	copy(room, "12345678")
	want := make([]byte, size)
	copy(want[5:], "cd")
	whole(t, "altered behind Write", &s, want)
	s.Write(0, count(3, size))
	if string(room) != "12345678" {
		t.Errorf("a later Write: %q", room)
	}
	// All bytes at once might be kept instead of copied.
	all := count(5, size)
	want = slices.Clone(all)
	s.Write(0, all)
	clear(all)
	whole(t, "all at once", &s, want)
}

// W6: what Read returns is new, up to its capacity; the Store is not to be altered by it, nor it by the Store.
func TestReadIsNew(t *testing.T) {
	s, all := full(t)
	for _, c := range [][2]int{{0, size}, {0, 1}, {5, 3}, {16380, 4}, {0, 0}, {100, 0}, {16384, 0}, {200, 1000}} {
		first, _ := s.Read(c[0], c[1])
		second, _ := s.Read(c[0], c[1])
		if !bytes.Equal(first, second) {
			t.Fatalf("Read(%d, %d) twice", c[0], c[1])
		}
		first = first[:cap(first)]
		for i := range first {
			first[i] ^= 0xff
		}
		if !bytes.Equal(second, all[c[0]:c[0]+c[1]]) {
			t.Fatalf("Read(%d, %d): two answers share bytes", c[0], c[1])
		}
		whole(t, "altered behind Read", s, all)
		from, to := uintptr(unsafe.Pointer(s)), uintptr(unsafe.Pointer(s))+unsafe.Sizeof(*s)
		if p := uintptr(unsafe.Pointer(unsafe.SliceData(second))); p >= from && p < to {
			t.Errorf("Read(%d, %d) points into the Store", c[0], c[1])
		}
	}
	b, _ := s.Read(7, 20)
	s.Write(0, make([]byte, size))
	if !bytes.Equal(b, all[7:27]) {
		t.Error("a later Write altered what was read")
	}
}

// W2: Read and Print have no effect; two Stores have nothing in common, and a copy goes on by itself.
func TestApart(t *testing.T) {
	s, all := full(t)
	before := *s
	s.Read(0, size)
	s.Read(-1, 5)
	s.Print(3, 700)
	s.Print(3, -7)
	if *s != before {
		t.Error("Read or Print had an effect")
	}
	var q Store
	q.Write(1, []byte("q"))
	other := *s
	other.Write(2, []byte("other"))
	s.Write(4, []byte("s"))
	whole(t, "q", &q, append([]byte("\x00q"), make([]byte, size-2)...))
	whole(t, "the copy", &other, slices.Concat(all[:2], []byte("other"), all[7:]))
	whole(t, "the first", s, slices.Concat(all[:4], []byte("s"), all[5:]))
	var group sync.WaitGroup
	for k := range 8 {
		group.Go(func() {
			var s Store
			want := make([]byte, size)
			for i := range 200 {
				addr, b := (i*977+k)%size, []byte{byte(i), byte(k)}
				if s.Write(addr, b) {
					copy(want[addr:], b)
				}
				got, ok := s.Read(addr, 1)
				if p, printOk := s.Print(addr, 1); !ok || !printOk || got[0] != want[addr] || p != printed(want[addr:addr+1]) {
					t.Error(k, i, got, ok, p, printOk)
				}
			}
			if got, ok := s.Read(0, size); !ok || !bytes.Equal(got, want) {
				t.Error(k, "the memory is wrong")
			}
		})
	}
	group.Wait()
}

// A Store keeps its bytes and nothing else.
func TestKeepsNoMore(t *testing.T) {
	if n := unsafe.Sizeof(Store{}); n != size {
		t.Errorf("%d bytes", n)
	}
}
