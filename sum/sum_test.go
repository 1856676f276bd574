package sum

import (
	"bytes"
	"slices"
	"testing"
)

// samples are byte strings of many lengths and contents, the edges among them.
func samples() [][]byte {
	all := make([]byte, 256)
	for i := range all {
		all[i] = byte(i)
	}
	mixed := make([]byte, 5000)
	for i := range mixed {
		mixed[i] = byte(i*i*31 + i*7 + i>>3)
	}
	list := [][]byte{
		nil,
		{},
		{0},
		{1},
		{0x7f},
		{0x80},
		{0xff},
		{0, 0, 0},
		[]byte("a"),
		[]byte("123456789"),
		all,
		bytes.Repeat([]byte{0xff}, 1024),
		bytes.Repeat([]byte{0}, 1024),
	}
	for _, n := range []int{2, 3, 127, 128, 129, 1023, 1024, 1025, 5000} {
		list = append(list, mixed[:n])
	}
	return list
}

// remainder divides the polynomial of b, with 16 zero bits behind it, by x^16 + x^12 + x^5 + 1: the CRC by its theory, not by a register.
func remainder(b []byte) uint16 {
	bits := make([]byte, 8*len(b)+16)
	for i := range 8 * len(b) {
		bits[i] = b[i/8] >> (7 - i%8) & 1
	}
	for i := range 8 * len(b) {
		if bits[i] == 1 {
			for _, power := range []int{16, 12, 5, 0} {
				bits[i+16-power] ^= 1
			}
		}
	}
	var r uint16
	for _, bit := range bits[8*len(b):] {
		r = r<<1 | uint16(bit)
	}
	return r
}

// print64 is the fingerprint as P1.3 says it, in numbers that are wide enough for anything.
func print64(b []byte) uint32 {
	var s, t uint64
	for _, c := range b {
		s = (s + uint64(c)) % 65521
		t = (t + s + 1) % 65521
	}
	return uint32(65536*t + s)
}

// P1.1: the sum modulo 256.
func TestCheck(t *testing.T) {
	for _, c := range []struct {
		b    []byte
		want byte
	}{
		{nil, 0},
		{[]byte{}, 0},
		{[]byte{0}, 0},
		{[]byte{7}, 7},
		{[]byte{255}, 255},
		{[]byte{200, 100}, 44},
		{[]byte{255, 1}, 0},
		{[]byte{128, 128, 3}, 3},
		{[]byte("123456789"), 0xdd},
		{bytes.Repeat([]byte{0xff}, 1024), 0},
		{bytes.Repeat([]byte{0xff}, 128), 128},
	} {
		if got := Check(c.b); got != c.want {
			t.Errorf("Check of %d bytes %.8x: %d, not %d", len(c.b), c.b, got, c.want)
		}
	}
	for _, b := range samples() {
		total := 0
		for _, c := range b {
			total += int(c)
		}
		if got := Check(b); int(got) != total%256 {
			t.Errorf("Check of %d bytes %.8x: %d, not %d", len(b), b, got, total%256)
		}
	}
}

// P1.1: values that are known of this CRC.
func TestCrcKnown(t *testing.T) {
	for _, c := range []struct {
		b    []byte
		want uint16
	}{
		{nil, 0},
		{[]byte{}, 0},
		{[]byte{0}, 0},
		{[]byte{0, 0, 0}, 0},
		{[]byte{1}, 0x1021},
		{[]byte{2}, 0x2042},
		{[]byte{0x80}, 0x9188},
		{[]byte{0xff}, 0x1ef0},
		{[]byte("A"), 0x58e5},
		{[]byte("123456789"), 0x31c3},
	} {
		if got := Crc(c.b); got != c.want {
			t.Errorf("Crc of %x: %#x, not %#x", c.b, got, c.want)
		}
	}
}

// P1.1: every CRC is the remainder of a division.
func TestCrcIsRemainder(t *testing.T) {
	for _, b := range samples() {
		if got, want := Crc(b), remainder(b); got != want {
			t.Errorf("Crc of %d bytes %.8x: %#x, not %#x", len(b), b, got, want)
		}
	}
	for first := range 256 {
		for second := range 256 {
			b := []byte{byte(first), byte(second)}
			if got, want := Crc(b), remainder(b); got != want {
				t.Fatalf("Crc of %x: %#x, not %#x", b, got, want)
			}
		}
	}
}

// P1.1: bytes with their own CRC behind them leave nothing, and any altered bit leaves something.
func TestCrcDetects(t *testing.T) {
	b := []byte("a block of data")
	crc := Crc(b)
	b = append(b, byte(crc>>8), byte(crc))
	if got := Crc(b); got != 0 {
		t.Errorf("with the CRC behind: %#x", got)
	}
	for i := range 8 * len(b) {
		b[i/8] ^= 1 << (i % 8)
		if Crc(b) == 0 {
			t.Errorf("bit %d altered: 0", i)
		}
		b[i/8] ^= 1 << (i % 8)
	}
}

// P1.2: each element of Table is the Crc of its byte.
func TestTable(t *testing.T) {
	table := Table()
	for c := range 256 {
		if want := remainder([]byte{byte(c)}); table[c] != want || Crc([]byte{byte(c)}) != want {
			t.Errorf("of %d: %#x, not %#x", c, table[c], want)
		}
	}
	for c, want := range map[int]uint16{0: 0, 1: 0x1021, 2: 0x2042, 127: 0x8f78, 128: 0x9188, 255: 0x1ef0} {
		if table[c] != want {
			t.Errorf("of %d: %#x, not %#x", c, table[c], want)
		}
	}
}

// P1.2: what a caller does to its table does not reach the next one.
func TestTableIsNew(t *testing.T) {
	first := Table()
	first[1] = 7
	if second := Table(); second[1] != 0x1021 {
		t.Errorf("%#x", second[1])
	}
	if got := Crc([]byte{1}); got != 0x1021 {
		t.Errorf("Crc: %#x", got)
	}
}

// P1.2: for Table, By is Crc.
func TestByIsCrc(t *testing.T) {
	table := Table()
	for _, b := range samples() {
		if got, want := By(&table, b), Crc(b); got != want {
			t.Errorf("By of %d bytes %.8x: %#x, not %#x", len(b), b, got, want)
		}
	}
}

// P1.2: By takes the table that it is given, any table.
func TestByOtherTables(t *testing.T) {
	var zero, one, count, steep [256]uint16
	for i := range 256 {
		one[i] = 1
		count[i] = uint16(i)
		steep[i] = uint16(0x0101 * (255 - i))
	}
	for _, c := range []struct {
		name  string
		table *[256]uint16
		b     []byte
		want  uint16
	}{
		{"zero", &zero, []byte{1, 2, 3}, 0},
		{"one, no byte", &one, nil, 0},
		{"one, no byte either", &one, []byte{}, 0},
		{"one", &one, []byte{9}, 1},
		{"one", &one, []byte{9, 9}, 0x101},
		{"one", &one, []byte{9, 9, 9}, 0x101},
		// 0 -> 0x0012 -> 0x1234 -> 0x3400 ^ (0x12 ^ 0x56): the index is the high byte with the byte.
		{"count", &count, []byte{0x12, 0x34, 0x56}, 0x3444},
		{"count", &count, []byte{0x12, 0x34, 0x56, 0x78}, 0x444c},
		// 0 -> 0xffff -> 0xff00 ^ steep[0xff ^ 1], which is 0x0101.
		{"steep", &steep, []byte{0, 1}, 0xfe01},
	} {
		if got := By(c.table, c.b); got != c.want {
			t.Errorf("%s of %x: %#x, not %#x", c.name, c.b, got, c.want)
		}
	}
}

// P1.3: fingerprints that are worked out by hand.
func TestPrintKnown(t *testing.T) {
	const top = 65520 // the greatest remainder
	for _, c := range []struct {
		name string
		b    []byte
		want uint32
	}{
		{"nil", nil, 0},
		{"none", []byte{}, 0},
		{"one zero", []byte{0}, 1 << 16},
		{"two zeros", []byte{0, 0}, 2 << 16},
		{"a", []byte("a"), 98<<16 + 97},
		{"ab", []byte("ab"), 294<<16 + 195},
		{"ba", []byte("ba"), 295<<16 + 195},
		{"one 255", []byte{255}, 256<<16 + 255},
		{"t at its top", make([]byte, 65520), top << 16},
		{"t goes round to 0", make([]byte, 65521), 0},
		{"t goes round to 1", make([]byte, 65522), 1 << 16},
	} {
		if got := Print(c.b); got != c.want {
			t.Errorf("%s: %#x, not %#x", c.name, got, c.want)
		}
	}
}

// P1.3: the sum of bytes just below 65521, at it and above.
func TestPrintSumGoesRound(t *testing.T) {
	full := bytes.Repeat([]byte{255}, 256) // 65280 in all
	for last, want := range map[byte]uint32{239: 65519, 240: 65520, 241: 0, 242: 1, 255: 14} {
		b := append(slices.Clone(full), last)
		if got := Print(b) & 0xffff; got != want {
			t.Errorf("with %d behind: %d, not %d", last, got, want)
		}
	}
}

// P1.3: t is made from the s of the same byte, after its remainder was taken.
func TestPrintOrder(t *testing.T) {
	for _, b := range samples() {
		if got, want := Print(b), print64(b); got != want {
			t.Errorf("Print of %d bytes %.8x: %#x, not %#x", len(b), b, got, want)
		}
	}
	long := bytes.Repeat([]byte{255, 254, 0, 253}, 50000)
	if got, want := Print(long), print64(long); got != want {
		t.Errorf("%d bytes: %#x, not %#x", len(long), got, want)
	}
}

// P1.3: a zero Printer has printed nothing, and writing nothing changes nothing.
func TestPrinterOfNothing(t *testing.T) {
	var p Printer
	if got := p.Sum(); got != 0 {
		t.Errorf("at first: %#x", got)
	}
	p.Write()
	p.Write(nil...)
	p.Write([]byte{}...)
	if got := p.Sum(); got != 0 {
		t.Errorf("after nothing: %#x", got)
	}
	p.Write('a')
	p.Write()
	if got := p.Sum(); got != 98<<16+97 {
		t.Errorf("after a and nothing: %#x", got)
	}
}

// P1.3: in two parts, cut anywhere, and with a look at the Sum between them.
func TestPrinterTwoParts(t *testing.T) {
	for _, b := range samples() {
		if len(b) > 300 {
			b = b[:300]
		}
		for cut := range len(b) + 1 {
			var p Printer
			p.Write(b[:cut]...)
			if got, want := p.Sum(), print64(b[:cut]); got != want {
				t.Fatalf("%d of %d bytes: %#x, not %#x", cut, len(b), got, want)
			}
			p.Write(b[cut:]...)
			if got, want := p.Sum(), print64(b); got != want {
				t.Fatalf("%d bytes cut at %d: %#x, not %#x", len(b), cut, got, want)
			}
			if p.Sum() != p.Sum() {
				t.Fatal("Sum alters the Printer")
			}
		}
	}
}

// P1.3: in parts of one length, each byte by itself among them, and in uneven ones.
func TestPrinterManyParts(t *testing.T) {
	for _, b := range samples() {
		want := Print(b)
		for _, size := range []int{1, 2, 7, 128, 1024} {
			var p Printer
			for part := range slices.Chunk(b, size) {
				p.Write(part...)
			}
			if got := p.Sum(); got != want {
				t.Errorf("%d bytes in parts of %d: %#x, not %#x", len(b), size, got, want)
			}
		}
		var p Printer
		rest := b
		for size := 0; len(rest) > 0; size++ {
			n := min(size, len(rest))
			p.Write(rest[:n]...)
			rest = rest[n:]
		}
		if got := p.Sum(); got != want {
			t.Errorf("%d bytes in growing parts: %#x, not %#x", len(b), got, want)
		}
	}
}

// P1.3: two Printers have nothing in common (W2), and a copy goes on by itself.
func TestPrintersAreApart(t *testing.T) {
	var p, q Printer
	p.Write('a')
	q.Write('x', 'y')
	other := p
	other.Write('c')
	p.Write('b')
	if p.Sum() != Print([]byte("ab")) || q.Sum() != Print([]byte("xy")) || other.Sum() != Print([]byte("ac")) {
		t.Errorf("%#x %#x %#x", p.Sum(), q.Sum(), other.Sum())
	}
}

// P1.1 to P1.3 with W6: no argument is modified, and a Printer keeps none.
func TestArgumentsStay(t *testing.T) {
	b := []byte("some bytes that stay")
	before := slices.Clone(b)
	table := Table()
	var p Printer
	Check(b)
	Crc(b)
	By(&table, b)
	Print(b)
	p.Write(b...)
	if !bytes.Equal(b, before) {
		t.Errorf("bytes: %q", b)
	}
	if table != Table() {
		t.Error("the table was modified")
	}
	b[0] ^= 0xff
	if p.Sum() != Print(before) {
		t.Error("the Printer kept its argument")
	}
}
