package header

import (
	"bytes"
	"math"
	"slices"
	"strings"
	"testing"

	"lifeline/api"
)

// The signatures of the chapter, to the letter.
var (
	_ func(string) bool             = Name
	_ func(api.File) bool           = May
	_ func(api.File) ([]byte, bool) = Make
	_ func() []byte                 = Empty
	_ func([]byte) (api.File, bool) = Read
	_ func([]byte) bool             = Ends
)

// The bytes of names, written out.
const (
	letters = "abcdefghijklmnopqrstuvwxyzABCDEFGHIJKLMNOPQRSTUVWXYZ"
	others  = letters + "0123456789.-_"
)

// longest is the file with the longest encoding.
func longest() api.File {
	return api.File{Name: strings.Repeat("Zz", 16), Size: 8192, Time: 1<<32 - 1, Mode: 65535}
}

// files are valid files: ordinary ones, and the edges of each part.
func files() []api.File {
	list := []api.File{
		{Name: "a"},
		{Name: "a", Size: 8, Time: 9, Mode: 7},
		{Name: "boot-1.bin", Size: 4711, Time: 1700000000, Mode: 0o100644},
		{Name: "Z_.-9", Size: 1, Time: 1, Mode: 1},
		{Name: strings.Repeat("n", 32)},
		longest(),
	}
	for _, size := range []int{0, 1, 7, 8, 9, 10, 99, 100, 128, 1024, 8191, 8192} {
		for _, time := range []int{0, 7, 8, 63, 64, 1<<31 - 1, 1 << 31, 1<<32 - 1} {
			for _, mode := range []int{0, 7, 8, 0o777, 65534, 65535} {
				list = append(list, api.File{Name: "f.1", Size: size, Time: time, Mode: mode})
			}
		}
	}
	return list
}

// wrongFiles are files of which one part or more is not valid.
func wrongFiles() []api.File {
	list := []api.File{{}, {Size: 1, Time: 1, Mode: 1}, {Name: "a", Size: -1, Time: -1, Mode: -1}, {Name: "a", Size: 8193, Time: 1 << 32, Mode: 65536}}
	for _, name := range wrongNames() {
		list = append(list, api.File{Name: name, Size: 1, Time: 2, Mode: 3})
	}
	// Those above 2^32 are small once they are cut to 32 bits.
	for _, n := range []int{-1, -2, -8, -8192, -65535, -1 << 16, -1 << 31, -1 << 32, math.MinInt, math.MinInt + 1, 1 << 32, 1<<32 + 1, 1<<32 + 7, 1 << 33, 1 << 48, math.MaxInt} {
		list = append(list, api.File{Name: "a", Size: n}, api.File{Name: "a", Time: n}, api.File{Name: "a", Mode: n})
	}
	for _, n := range []int{8193, 8194, 9000, 16384, 65535, 65536, 1<<16 + 8, 1<<31 - 1, 1 << 31, 1<<32 - 1} {
		list = append(list, api.File{Name: "a", Size: n})
	}
	for _, n := range []int{65536, 65537, 1<<17 - 1, 1<<31 - 1, 1 << 31, 1<<32 - 1} {
		list = append(list, api.File{Name: "a", Mode: n})
	}
	return list
}

// wrongNames are texts that are no file's names.
func wrongNames() []string {
	return []string{
		"", "1", "1a", ".", ".a", "-", "-a", "_", "_a", " ", " a", "a ", "a b", "a/b", "/a", "a\\b", "a:b", "a*", "a,b", "a+b", "a~", "a@b", "a\"", "a'", "a\x00", "\x00", "\x00a", "a\x00b", "a\n", "a\r", "\ta", "a\x7f", "a\x80", "a\xff",
		"\u00e9", "a\u00e9", "\u00c4b", "\u0430", "a\u0430", "\u212a", "a\u0661", "a\u2010b", "\uff21", "a\uff21", "a\U0001d7d8", "\xc3", "a\xc3",
		strings.Repeat("a", 33), strings.Repeat("a", 64), strings.Repeat("a", 128), strings.Repeat("a", 256), strings.Repeat("a", 256+32), strings.Repeat("a", 1<<16+1),
	}
}

// digits are a number's digits in a base, by dividing.
func digits(n, base int) string {
	s := ""
	for s == "" || n > 0 {
		s = "0123456789"[n%base:n%base+1] + s
		n /= base
	}
	return s
}

// padded is a text with zero bytes up to 128.
func padded(s string) []byte {
	b := make([]byte, 128)
	if copy(b, s) != len(s) {
		panic("longer than 128 bytes")
	}
	return b
}

// encoded is what P5.2 says that the encoding of a valid file is.
func encoded(f api.File) []byte {
	return padded(f.Name + "\x00" + digits(f.Size, 10) + " " + digits(f.Time, 8) + " " + digits(f.Mode, 8))
}

// named tells whether P5.1 takes a text for a file's name.
func named(s string) bool {
	if len(s) < 1 || len(s) > 32 || strings.IndexByte(letters, s[0]) < 0 {
		return false
	}
	for _, c := range []byte(s) {
		if strings.IndexByte(others, c) < 0 {
			return false
		}
	}
	return true
}

// number is the number up to a limit with which data begin, and what stands behind it; false, if its digits are not those that are written.
func number(data []byte, base, limit int) (int, []byte, bool) {
	n, i := 0, 0
	for i < len(data) && data[i] >= '0' && int(data[i]-'0') < base {
		n = n*base + int(data[i]-'0')
		i++
		if n > limit {
			return 0, nil, false
		}
	}
	if i == 0 || i > 1 && data[0] == '0' {
		return 0, nil, false
	}
	return n, data[i:], true
}

// decoded is the file of an encoding, byte by byte, without encoding it again.
func decoded(data []byte) (api.File, bool) {
	end := bytes.IndexByte(data, 0)
	if len(data) != 128 || end < 0 || !named(string(data[:end])) {
		return api.File{}, false
	}
	f := api.File{Name: string(data[:end])}
	rest := data[end+1:]
	for _, part := range []struct {
		into        *int
		base, limit int
		behind      byte
	}{{&f.Size, 10, 8192, ' '}, {&f.Time, 8, 1<<32 - 1, ' '}, {&f.Mode, 8, 65535, 0}} {
		n, after, ok := number(rest, part.base, part.limit)
		if !ok || len(after) == 0 || after[0] != part.behind {
			return api.File{}, false
		}
		*part.into, rest = n, after[1:]
	}
	for _, c := range rest {
		if c != 0 {
			return api.File{}, false
		}
	}
	return f, true
}

// made is the encoding of a file that has one.
func made(t *testing.T, f api.File) []byte {
	t.Helper()
	data, ok := Make(f)
	if !ok {
		t.Fatalf("Make(%v): false", f)
	}
	return data
}

// wantRead compares a Read with what the words of P5.2 ask for. It ends the test, which compares very many.
func wantRead(t *testing.T, data []byte) {
	t.Helper()
	want, wantOk := decoded(data)
	got, ok := Read(data)
	if got != want || ok != wantOk {
		t.Fatalf("Read(%q): %v, %v; want %v, %v", data, got, ok, want, wantOk)
	}
}

// wantNothing asks that data are read as no file.
func wantNothing(t *testing.T, data []byte) {
	t.Helper()
	if f, ok := Read(data); ok || f != (api.File{}) {
		t.Errorf("Read(%q): %v, %v", data, f, ok)
	}
}

// P5.1: names.
func TestName(t *testing.T) {
	for _, s := range []string{"a", "z", "A", "Z", "a.", "a-", "a_", "a0", "a9", "boot", "boot-1.bin", "B..--__00", "k.tar.gz", strings.Repeat("a", 31), strings.Repeat("a", 32), "a" + strings.Repeat("9", 31)} {
		if !Name(s) {
			t.Errorf("Name(%q): false", s)
		}
	}
	for _, s := range wrongNames() {
		if Name(s) {
			t.Errorf("Name(%.40q): true", s)
		}
	}
}

// P5.1: a name of each byte alone, and with each byte at each other place of a name of each length.
func TestNameOfEachByte(t *testing.T) {
	for c := range 256 {
		s := string([]byte{byte(c)})
		if got := Name(s); got != strings.Contains(letters, s) {
			t.Fatalf("Name(%q): %v", s, got)
		}
		for n := 2; n <= 32; n++ {
			for at := range n {
				name := strings.Repeat("b", at) + s + strings.Repeat("b", n-1-at)
				want := strings.Contains(others, s)
				if at == 0 {
					want = strings.Contains(letters, s)
				}
				if got := Name(name); got != want {
					t.Fatalf("Name(%q): %v", name, got)
				}
			}
		}
	}
}

// P5.1: 1 to 32 bytes, not runes.
func TestNameOfEachLength(t *testing.T) {
	for n := range 600 {
		if got := Name(strings.Repeat("x", n)); got != (n >= 1 && n <= 32) {
			t.Errorf("%d bytes: %v", n, got)
		}
	}
}

// P5.1: valid files, and such of which one part is not.
func TestMay(t *testing.T) {
	for _, f := range files() {
		if !May(f) {
			t.Errorf("May(%v): false", f)
		}
	}
	for _, f := range wrongFiles() {
		if May(f) {
			t.Errorf("May(%.40v): true", f)
		}
	}
}

// P5.1: each part has limits of its own: the same number in each of them.
func TestMayOfEachNumber(t *testing.T) {
	for _, edge := range []int{0, 8192, 65535, 1<<32 - 1} {
		for n := edge - 3; n <= edge+3; n++ {
			for _, c := range []struct {
				part  string
				f     api.File
				limit int
			}{
				{"Size", api.File{Name: "a", Size: n}, 8192},
				{"Time", api.File{Name: "a", Time: n}, 1<<32 - 1},
				{"Mode", api.File{Name: "a", Mode: n}, 65535},
			} {
				if got := May(c.f); got != (n >= 0 && n <= c.limit) {
					t.Errorf("%s %d: %v", c.part, n, got)
				}
			}
		}
	}
}

// P5.2: encodings that are worked out by hand, the example of the chapter first.
func TestMakeKnown(t *testing.T) {
	for _, c := range []struct {
		f    api.File
		want string
	}{
		{api.File{Name: "a", Size: 8, Time: 9, Mode: 7}, "a\x008 11 7"},
		{api.File{Name: "a"}, "a\x000 0 0"},
		{api.File{Name: "Z"}, "Z\x000 0 0"},
		{api.File{Name: "boot-1.bin", Size: 8192, Time: 511, Mode: 0o644}, "boot-1.bin\x008192 777 644"},
		{api.File{Name: "x_y", Size: 10, Time: 8, Mode: 8}, "x_y\x0010 10 10"},
		{api.File{Name: "x", Size: 100, Time: 64, Mode: 4096}, "x\x00100 100 10000"},
		{longest(), "ZzZzZzZzZzZzZzZzZzZzZzZzZzZzZzZz\x008192 37777777777 177777"},
	} {
		want := c.want + strings.Repeat("\x00", 128-len(c.want))
		if got := made(t, c.f); string(got) != want {
			t.Errorf("Make(%v): %q", c.f, got)
		}
		if f, ok := Read([]byte(want)); f != c.f || !ok {
			t.Errorf("Read(%q): %v, %v", want, f, ok)
		}
	}
}

// wantBothWays asks that a file is encoded as P5.2 says, that it is read again, and that it does not say that no more files follow. It ends the test, as wantRead does.
func wantBothWays(t *testing.T, f api.File) {
	t.Helper()
	data := made(t, f)
	if !bytes.Equal(data, encoded(f)) {
		t.Fatalf("Make(%v): %q", f, data)
	}
	if got, ok := Read(data); got != f || !ok {
		t.Fatalf("Read(%q): %v, %v", data, got, ok)
	}
	if Ends(data) {
		t.Fatalf("Ends(%q)", data)
	}
}

// P5.2: the samples, every size, every mode, times around each power of 8 and of 10, and names of each length and byte.
func TestMakeAndRead(t *testing.T) {
	for _, f := range files() {
		wantBothWays(t, f)
	}
	for size := range 8193 {
		wantBothWays(t, api.File{Name: "s", Size: size, Time: 1, Mode: 2})
	}
	for mode := range 65536 {
		wantBothWays(t, api.File{Name: "m", Size: 1, Time: 2, Mode: mode})
	}
	for _, base := range []int{8, 10} {
		for power := 1; power < 1<<32; power *= base {
			for _, time := range []int{power - 1, power, power + 1, 3*power - 1} {
				if time < 1<<32 {
					wantBothWays(t, api.File{Name: "t", Size: 1, Time: time, Mode: 2})
				}
			}
		}
	}
	for n := 1; n <= 32; n++ {
		f := longest()
		f.Name = f.Name[:n]
		wantBothWays(t, f)
	}
	for _, c := range others {
		wantBothWays(t, api.File{Name: "n" + string(c) + "n", Size: 3})
	}
}

// P5.2: a file that is not valid has no bytes, and false.
func TestMakeOfWrongFiles(t *testing.T) {
	for _, f := range wrongFiles() {
		if data, ok := Make(f); ok || len(data) != 0 {
			t.Errorf("Make(%.40v): %q, %v", f, data, ok)
		}
	}
}

// P5.2: data that are no encoding of a valid file, though some of them look like one.
func TestReadOfNoEncoding(t *testing.T) {
	for _, s := range []string{
		// Parts are missing, or there are too many.
		"", "a", "a\x00", "a\x00 ", "a\x00  ", "a\x000", "a\x000 ", "a\x000 0", "a\x000 0 ", "a\x00 0 0", "a\x000  0", "a\x000 0 0 ", "a\x000 0 0 0", "a\x001 2 3 4 5", "a\x001,2,3", "a\x001\x002\x003", "a\x001 2\x003", "a 1 2 3", "a 1 2 3\x00", "a1 2 3",
		// Separators.
		"a\x00\x001 2 3", "a\x00 1 2 3", "a\x001  2 3", "a\x001 2  3", "a\x001\t2 3", "a\x001 2\n3", "a\x001 2 3 ", "a\x001 2 3\n", "a\x001\xa02\xa03", "a\n1 2 3",
		// Names.
		"\x001 2 3", "1a\x001 2 3", "-a\x001 2 3", "a b\x001 2 3", "a/b\x001 2 3", "\u00e9\x001 2 3", strings.Repeat("a", 33) + "\x001 2 3", strings.Repeat("a", 110) + "\x001 2 3",
		// Digits that are not written so.
		"a\x0001 2 3", "a\x001 02 3", "a\x001 2 03", "a\x0000 0 0", "a\x000 00 0", "a\x000 0 00", "a\x00+1 2 3", "a\x001 +2 3", "a\x001 2 +3", "a\x00-0 0 0", "a\x000 -0 0", "a\x000 0 -0", "a\x00-1 2 3", "a\x001 -2 3", "a\x001 2 -3", "a\x001_0 2 3", "a\x001 1_0 3", "a\x001 2 1_0", "a\x000x1 2 3", "a\x001 0o2 3", "a\x001 2 0b1", "a\x001. 2 3", "a\x001e1 2 3", "a\x00a 2 3", "a\x001 a 3", "a\x001 2 a", "a\x00\u0661 2 3",
		// Digits that base 8 has not.
		"a\x001 8 3", "a\x001 9 3", "a\x001 18 3", "a\x001 2 8", "a\x001 2 9", "a\x001 2 79",
		// Numbers that are too great, of any length.
		"a\x008193 2 3", "a\x009000 2 3", "a\x0010000 2 3", "a\x0065536 2 3", "a\x001 40000000000 3", "a\x001 37777777780 3", "a\x001 2 200000", "a\x001 2 177780", "a\x004294967297 2 3", "a\x001 40000000001 3", "a\x001 2 200001",
		"a\x0018446744073709551617 2 3", "a\x001 2000000000000000000001 3", "a\x001 2 2000000000000000000001", "a\x00" + strings.Repeat("9", 100) + " 2 3", "a\x001 " + strings.Repeat("7", 100) + " 3", "a\x001 2 " + strings.Repeat("7", 100), "a\x009223372036854775807 2 3", "a\x009223372036854775808 2 3",
		// Bytes behind the numbers.
		"a\x001 2 3\x00x", "a\x001 2 3\x00 ", "a\x001 2 3\x000", "a\x001 2 3\x00\x00\x00\xff", "a\x001 2 3\x1a", "a\x001 2 3\x00\x1a",
	} {
		wantNothing(t, padded(s))
		if f, ok := decoded(padded(s)); ok {
			t.Errorf("the test itself takes %q for %v", s, f)
		}
	}
	wantNothing(t, bytes.Repeat([]byte("a"), 128))
	wantNothing(t, bytes.Repeat([]byte{0xff}, 128))
	wantNothing(t, bytes.Repeat([]byte(" "), 128))
	last := made(t, longest())
	last[127] = 1
	wantNothing(t, last)
}

// P5.2: an encoding has 128 bytes: none less, none more.
func TestReadOfEachLength(t *testing.T) {
	wantNothing(t, nil)
	wantNothing(t, []byte{})
	for _, f := range files() {
		long := append(made(t, f), make([]byte, 1024)...)
		for _, n := range []int{0, 1, 2, 9, 56, 64, 126, 127, 129, 130, 256, 1024, 1024 + 128} {
			wantNothing(t, long[:n])
		}
		if got, ok := Read(long[:128]); got != f || !ok {
			t.Errorf("%v: %v, %v", f, got, ok)
		}
	}
	for n := range 400 {
		long := make([]byte, n)
		copy(long, "a\x001 2 3")
		wantRead(t, long)
	}
}

// P5.2: encodings with each byte altered to each other one, with one removed, and with one inserted.
func TestReadOfAltered(t *testing.T) {
	for _, f := range []api.File{{Name: "a", Size: 8, Time: 9, Mode: 7}, {Name: "b.1"}, longest()} {
		for at := range 128 {
			data := encoded(f)
			without := append(slices.Delete(bytes.Clone(data), at, at+1), 0)
			wantRead(t, without)
			for c := range 256 {
				altered := bytes.Clone(data)
				altered[at] = byte(c)
				wantRead(t, altered)
				wantRead(t, slices.Insert(bytes.Clone(data), at, byte(c))[:128])
			}
		}
	}
}

// P5.2: data of every mixture of right and wrong parts.
func TestReadOfMixtures(t *testing.T) {
	names := []string{"", "a", "a-1", "1", "a ", strings.Repeat("q", 32), strings.Repeat("q", 33)}
	numbers := []string{"", "0", "00", "7", "8", "10", "-1", "8192", "8193", "177777", "200000", "37777777777", "40000000000"}
	blanks := []string{"", " ", "\x00"}
	tails := []string{"", "\x00", " ", "\x001"}
	for _, name := range names {
		for _, size := range numbers {
			for _, time := range numbers {
				for _, mode := range numbers {
					for _, blank := range blanks {
						for _, tail := range tails {
							wantRead(t, padded(name+"\x00"+size+blank+time+blank+mode+tail))
						}
					}
				}
			}
		}
	}
}

// P5.2: Empty is 128 zero bytes; they end, and are no file.
func TestEmpty(t *testing.T) {
	data := Empty()
	if !bytes.Equal(data, make([]byte, 128)) {
		t.Errorf("%q", data)
	}
	if !Ends(data) {
		t.Error("Ends: false")
	}
	wantNothing(t, data)
}

// P5.2: Ends looks at the number of bytes and at the first one, at nothing else.
func TestEnds(t *testing.T) {
	if Ends(nil) || Ends([]byte{}) {
		t.Error("no bytes: true")
	}
	for n := range 1200 {
		if got := Ends(make([]byte, n)); got != (n == 128) {
			t.Errorf("%d bytes: %v", n, got)
		}
	}
	for first := range 256 {
		for _, rest := range []byte{0, 1, 'a', 255} {
			data := bytes.Repeat([]byte{rest}, 128)
			data[0] = byte(first)
			if got := Ends(data); got != (first == 0) {
				t.Errorf("%d and %d: %v", first, rest, got)
			}
		}
	}
}

// spoil alters each byte.
func spoil(b []byte) {
	for i := range b {
		b[i] ^= 0xff
	}
}

// W6: no argument is modified, none is retained, and results are new each time.
func TestApart(t *testing.T) {
	f := longest()
	data := made(t, f)
	before := bytes.Clone(data)
	got, _ := Read(data)
	Ends(data)
	if !bytes.Equal(data, before) {
		t.Error("Read or Ends altered its argument")
	}
	spoil(data)
	if got != f {
		t.Errorf("the file shares memory with the data: %v", got)
	}
	if again := made(t, f); !bytes.Equal(again, before) {
		t.Errorf("Make: %q", again)
	}
	spoil(Empty())
	if again := Empty(); !bytes.Equal(again, make([]byte, 128)) {
		t.Errorf("Empty: %q", again)
	}
	if again := made(t, api.File{Name: "a"}); !bytes.Equal(again, padded("a\x000 0 0")) {
		t.Errorf("Make of a short one: %q", again)
	}
}

// W2: what was called before does not matter.
func TestSameEachTime(t *testing.T) {
	for range 3 {
		wantBothWays(t, longest())
		wantNothing(t, Empty())
		wantBothWays(t, api.File{Name: "a", Size: 8, Time: 9, Mode: 7})
		if Name("1") || !Name("a") || May(api.File{}) || !May(api.File{Name: "a"}) || Ends(nil) || !Ends(Empty()) {
			t.Error("Name, May or Ends")
		}
	}
}
