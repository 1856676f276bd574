package block

import (
	"bytes"
	"slices"
	"strconv"
	"testing"

	"lifeline/api"
)

// The signatures of the chapter, to the letter.
var (
	_ func(api.Block, bool) ([]byte, bool)  = Make
	_ func(byte, bool) int                  = Size
	_ func([]byte, bool) (api.Block, State) = Scan
	_ func([]byte, bool) [][]byte           = Split
	_ func([][]byte) []api.Block            = Number
)

// both are the two kinds of a trailer.
var both = []bool{false, true}

// counted is so many bytes that differ from their neighbours.
func counted(n int) []byte {
	b := make([]byte, n)
	for i := range b {
		b[i] = byte(i*7 + i/256*3 + 1)
	}
	return b
}

// samples are data of blocks: ordinary, and such as hold bytes that say something elsewhere.
func samples() [][]byte {
	var list [][]byte
	for _, n := range []int{128, 1024} {
		list = append(list, make([]byte, n), bytes.Repeat([]byte{255}, n), bytes.Repeat([]byte{api.Pad}, n), bytes.Repeat([]byte{api.Soh, api.Stx, api.Eot, api.Can}, n/4), counted(n))
	}
	return list
}

// added is the sum of bytes modulo 256, in integers.
func added(b []byte) byte {
	total := 0
	for _, c := range b {
		total += int(c)
	}
	return byte(total % 256)
}

// divided is the CRC of bytes: what is left of their bits, and sixteen zeros behind them, divided by x^16 + x^12 + x^5 + 1.
func divided(b []byte) int {
	rest := 0
	for i := range len(b)*8 + 16 {
		bit := 0
		if i < len(b)*8 {
			bit = int(b[i/8]) >> (7 - i%8) & 1
		}
		rest = rest*2 + bit
		if rest >= 1<<16 {
			rest ^= 1<<16 + 1<<12 + 1<<5 + 1
		}
	}
	return rest
}

// encoded is what P4.1 says that the encoding of a block is.
func encoded(b api.Block, crc bool) []byte {
	lead := byte(1)
	if len(b.Data) == 1024 {
		lead = 2
	}
	list := []byte{lead, b.Number, 255 - b.Number}
	list = append(list, b.Data...)
	if !crc {
		return append(list, added(b.Data))
	}
	rest := divided(b.Data)
	return append(list, byte(rest/256), byte(rest%256))
}

// sizeOf is the Size in numbers.
func sizeOf(lead byte, crc bool) int {
	switch {
	case lead == 1 && !crc:
		return 132
	case lead == 1:
		return 133
	case lead == 2 && !crc:
		return 1028
	case lead == 2:
		return 1029
	}
	return 0
}

// scanned is the Scan in P4.2's words: the cases in their order.
func scanned(b []byte, crc bool) (api.Block, State) {
	if len(b) == 0 {
		return api.Block{}, Need
	}
	size := sizeOf(b[0], crc)
	if size == 0 {
		return api.Block{}, Bad
	}
	if len(b) >= 3 && int(b[1])+int(b[2]) != 255 {
		return api.Block{}, Bad
	}
	if len(b) < size {
		return api.Block{}, Need
	}
	data := b[3:131]
	if b[0] == 2 {
		data = b[3:1027]
	}
	block := api.Block{Number: b[1], Data: data}
	if string(b[:size]) != string(encoded(block, crc)) {
		return api.Block{}, Bad
	}
	return block, Good
}

// same tells whether two blocks are the same.
func same(a, b api.Block) bool { return a.Number == b.Number && bytes.Equal(a.Data, b.Data) }

// zero tells whether a block is the zero one.
func zero(b api.Block) bool { return b.Number == 0 && len(b.Data) == 0 }

// made is the encoding of a block that has one.
func made(t *testing.T, b api.Block, crc bool) []byte {
	t.Helper()
	list, ok := Make(b, crc)
	if !ok {
		t.Fatalf("Make of %d bytes of data: false", len(b.Data))
	}
	return list
}

// wantScan compares a Scan with what the words of P4.2 ask for.
func wantScan(t *testing.T, what string, b []byte, crc bool) {
	t.Helper()
	want, state := scanned(b, crc)
	got, s := Scan(b, crc)
	if s != state || !same(got, want) {
		t.Errorf("%s, crc %v: state %d, number %d, %d bytes; want state %d, number %d, %d bytes", what, crc, s, got.Number, len(got.Data), state, want.Number, len(want.Data))
	}
	if s != Good && !zero(got) {
		t.Errorf("%s, crc %v: state %d with a block", what, crc, s)
	}
}

// The states have the values of the chapter: the zero State is Need.
func TestStates(t *testing.T) {
	var s State
	if s != Need || Bad != 1 || Good != 2 {
		t.Error(s, Need, Bad, Good)
	}
}

// P4.1: the example of the chapter.
func TestExample(t *testing.T) {
	want := append([]byte{1, 1, 254}, make([]byte, 129)...)
	if got := made(t, api.Block{Number: 1, Data: make([]byte, 128)}, false); !bytes.Equal(got, want) {
		t.Error(got)
	}
}

// P4.1: encodings that are worked out by hand. The CRC of zeros is 0, whatever their number; that of zeros, and "123456789" behind them, is that of "123456789".
func TestMakeKnown(t *testing.T) {
	digits := []byte("123456789")
	short := append(make([]byte, 128-9), digits...)
	long := append(make([]byte, 1024-9), digits...)
	for _, c := range []struct {
		name    string
		block   api.Block
		crc     bool
		head    []byte
		trailer []byte
	}{
		// The sum of the nine digits is 477, which is 221 modulo 256.
		{"short", api.Block{Number: 7, Data: short}, false, []byte{1, 7, 248}, []byte{221}},
		{"short with a CRC", api.Block{Number: 7, Data: short}, true, []byte{1, 7, 248}, []byte{0x31, 0xc3}},
		{"long", api.Block{Number: 128, Data: long}, false, []byte{2, 128, 127}, []byte{221}},
		{"long with a CRC", api.Block{Number: 127, Data: long}, true, []byte{2, 127, 128}, []byte{0x31, 0xc3}},
		{"number 0", api.Block{Number: 0, Data: short}, false, []byte{1, 0, 255}, []byte{221}},
		{"number 255", api.Block{Number: 255, Data: long}, true, []byte{2, 255, 0}, []byte{0x31, 0xc3}},
		{"zeros with a CRC", api.Block{Number: 2, Data: make([]byte, 1024)}, true, []byte{2, 2, 253}, []byte{0, 0}},
		// 128 times 255 is 127 times 256 and 128 more; 1024 times 255 is 1020 times 256.
		{"ones", api.Block{Number: 3, Data: bytes.Repeat([]byte{255}, 128)}, false, []byte{1, 3, 252}, []byte{128}},
		{"long ones", api.Block{Number: 3, Data: bytes.Repeat([]byte{255}, 1024)}, false, []byte{2, 3, 252}, []byte{0}},
		// The CRC of a byte 1 alone is 0x1021.
		{"a last one", api.Block{Number: 4, Data: append(make([]byte, 127), 1)}, true, []byte{1, 4, 251}, []byte{0x10, 0x21}},
	} {
		want := slices.Concat(c.head, c.block.Data, c.trailer)
		if got := made(t, c.block, c.crc); !bytes.Equal(got, want) {
			t.Errorf("%s: %v ... %v", c.name, got[:3], got[3+len(c.block.Data):])
		}
	}
}

// P4.1: every number, each of the samples, both trailers.
func TestMakeAll(t *testing.T) {
	for i, data := range samples() {
		for number := range 256 {
			block := api.Block{Number: byte(number), Data: data}
			for _, crc := range both {
				if got := made(t, block, crc); !bytes.Equal(got, encoded(block, crc)) {
					t.Errorf("sample %d, number %d, crc %v: %v ... %v", i, number, crc, got[:3], got[3+len(data):])
				}
			}
		}
	}
}

// P4.1: without 128 or 1024 bytes of data there are no bytes, and false.
func TestMakeOfWrongSize(t *testing.T) {
	sizes := []int{1023, 1025, 2048, 128 + 1024, 128 << 8, 1024 << 8, 1<<16 + 128, 1<<16 + 1024}
	for n := range 300 {
		sizes = append(sizes, n)
	}
	for _, n := range sizes {
		for _, crc := range both {
			got, ok := Make(api.Block{Number: 1, Data: make([]byte, n)}, crc)
			if n == 128 {
				if !ok {
					t.Error("128: false")
				}
				continue
			}
			if ok || len(got) != 0 {
				t.Errorf("%d bytes, crc %v: %d bytes, %v", n, crc, len(got), ok)
			}
		}
	}
	if got, ok := Make(api.Block{}, false); ok || len(got) != 0 {
		t.Error("the zero Block:", got, ok)
	}
}

// P4.1: the Size of each byte, and that it is how many bytes Make returns.
func TestSize(t *testing.T) {
	for lead := range 256 {
		for _, crc := range both {
			if got := Size(byte(lead), crc); got != sizeOf(byte(lead), crc) {
				t.Errorf("Size(%d, %v): %d", lead, crc, got)
			}
		}
	}
	for _, data := range samples() {
		for _, crc := range both {
			b := made(t, api.Block{Number: 9, Data: data}, crc)
			if len(b) != Size(b[0], crc) {
				t.Errorf("%d bytes; Size %d", len(b), Size(b[0], crc))
			}
		}
	}
}

// P4.2, case 1: nothing is too few.
func TestScanNothing(t *testing.T) {
	for _, b := range [][]byte{nil, {}} {
		for _, crc := range both {
			if got, s := Scan(b, crc); s != Need || !zero(got) {
				t.Error(got, s)
			}
		}
	}
}

// P4.2, case 2: a first byte that is not a lead is Bad, with any bytes behind it.
func TestScanNoLead(t *testing.T) {
	whole := made(t, api.Block{Number: 1, Data: counted(1024)}, true)
	for first := range 256 {
		if first == 1 || first == 2 {
			continue
		}
		for _, n := range []int{1, 2, 3, 4, 131, 132, 133, len(whole)} {
			b := bytes.Clone(whole[:n])
			b[0] = byte(first)
			for _, crc := range both {
				if got, s := Scan(b, crc); s != Bad || !zero(got) {
					t.Errorf("first byte %d of %d: state %d", first, n, s)
				}
			}
		}
	}
}

// P4.2, case 3: the third byte, against every second one. With two bytes nothing can be said yet.
func TestScanNumber(t *testing.T) {
	for _, lead := range []byte{1, 2} {
		for number := range 256 {
			for _, crc := range both {
				if got, s := Scan([]byte{lead, byte(number)}, crc); s != Need || !zero(got) {
					t.Errorf("%d %d: state %d", lead, number, s)
				}
			}
			for inverted := range 256 {
				want := Bad
				if number+inverted == 255 {
					want = Need
				}
				for _, crc := range both {
					if got, s := Scan([]byte{lead, byte(number), byte(inverted)}, crc); s != want || !zero(got) {
						t.Errorf("%d %d %d: state %d", lead, number, inverted, s)
					}
				}
			}
		}
	}
}

// P4.2, case 3 comes ahead of 4, 5 and 6: a wrong third byte is Bad in however many bytes.
func TestScanWrongNumberAtAnyLength(t *testing.T) {
	for _, crc := range both {
		b := made(t, api.Block{Number: 5, Data: counted(128)}, crc)
		b[2] ^= 1
		for n := 3; n <= len(b); n++ {
			if got, s := Scan(b[:n], crc); s != Bad || !zero(got) {
				t.Errorf("%d bytes: state %d", n, s)
			}
		}
	}
}

// P4.2, case 4: with fewer bytes than the Size it is Need, whatever the data; case 6: with all it is Good.
func TestScanBeginnings(t *testing.T) {
	for i, data := range samples() {
		block := api.Block{Number: byte(40 * i), Data: data}
		for _, crc := range both {
			b := made(t, block, crc)
			for n := range len(b) {
				if got, s := Scan(b[:n], crc); s != Need || !zero(got) {
					t.Fatalf("sample %d, %d of %d bytes: state %d", i, n, len(b), s)
				}
			}
			if got, s := Scan(b, crc); s != Good || !same(got, block) {
				t.Errorf("sample %d: state %d, number %d", i, s, got.Number)
			}
		}
	}
}

// P4.2, case 5: any byte of the data or of the trailer altered is Bad.
func TestScanAltered(t *testing.T) {
	for _, n := range []int{128, 1024} {
		for _, crc := range both {
			b := made(t, api.Block{Number: 200, Data: counted(n)}, crc)
			for i := 3; i < len(b); i++ {
				for _, turn := range []byte{1, 16, 128, 255} {
					b[i] ^= turn
					if got, s := Scan(b, crc); s != Bad || !zero(got) {
						t.Errorf("byte %d of %d, turned by %d, crc %v: state %d", i, len(b), turn, crc, s)
					}
					b[i] ^= turn
				}
			}
		}
	}
}

// P4.2, case 5: every other trailer is Bad. The two bytes of a CRC in the other order are another one.
func TestScanTrailers(t *testing.T) {
	data := counted(128)
	b := made(t, api.Block{Number: 1, Data: data}, false)
	for c := range 256 {
		b[131] = byte(c)
		wantScan(t, "sum "+strconv.Itoa(c), b, false)
	}
	b = made(t, api.Block{Number: 1, Data: data}, true)
	b[131], b[132] = b[132], b[131]
	if b[131] == b[132] {
		t.Fatal("a CRC of two equal bytes tells nothing")
	}
	if got, s := Scan(b, true); s != Bad || !zero(got) {
		t.Errorf("CRC in the other order: state %d", s)
	}
}

// P4.2, cases 4 to 6: an encoding of the one kind, taken as one of the other.
func TestScanOtherKind(t *testing.T) {
	data := counted(128)
	check := made(t, api.Block{Number: 1, Data: data}, false)
	if got, s := Scan(check, true); s != Need || !zero(got) {
		t.Errorf("a checksum, one byte short of a CRC: state %d", s)
	}
	for c := range 256 {
		wantScan(t, "a checksum, and a byte "+strconv.Itoa(c), append(bytes.Clone(check), byte(c)), true)
	}
	crc := made(t, api.Block{Number: 1, Data: data}, true)
	wantScan(t, "a CRC", crc, false)
	// Of zeros, both trailers are zeros: the second byte of the CRC is one behind the encoding.
	zeros := made(t, api.Block{Number: 1, Data: make([]byte, 128)}, true)
	if got, s := Scan(zeros, false); s != Good || len(got.Data) != 128 {
		t.Errorf("zeros: state %d", s)
	}
}

// P4.2, case 6: bytes after the encoding do not matter; bytes ahead of it do.
func TestScanBehind(t *testing.T) {
	for _, data := range samples() {
		block := api.Block{Number: 77, Data: data}
		for _, crc := range both {
			b := made(t, block, crc)
			for _, behind := range [][]byte{{0}, {255}, {api.Eot}, b, counted(2000)} {
				if got, s := Scan(slices.Concat(b, behind), crc); s != Good || !same(got, block) {
					t.Errorf("%d bytes behind: state %d", len(behind), s)
				}
			}
			if _, s := Scan(slices.Concat([]byte{0}, b), crc); s != Bad {
				t.Errorf("a byte ahead: state %d", s)
			}
		}
	}
}

// P4.1, P4.2: Scan of what Make returns is the block, for every number.
func TestScanOfMake(t *testing.T) {
	for number := range 256 {
		for _, n := range []int{128, 1024} {
			block := api.Block{Number: byte(number), Data: counted(n)}
			for _, crc := range both {
				if got, s := Scan(made(t, block, crc), crc); s != Good || !same(got, block) {
					t.Errorf("number %d, %d bytes: state %d, number %d", number, n, s, got.Number)
				}
			}
		}
	}
}

// P4.2: bytes of any kind and number, against the cases in their order.
func TestScanAny(t *testing.T) {
	register := uint32(1)
	next := func() byte { // numbers without order, the same ones each time
		register = register*1664525 + 1013904223
		return byte(register >> 24)
	}
	for round := range 4000 {
		b := make([]byte, int(next())*5)
		for i := range b {
			b[i] = next()
		}
		if len(b) > 0 && round%4 > 0 {
			b[0] = byte(round % 4)
		}
		if len(b) > 2 && round%8 > 2 {
			b[2] = 255 - b[1]
		}
		// A right trailer, now and then.
		if crc := round%16 < 8; len(b) >= 1029 && round%32 > 4 && sizeOf(b[0], crc) > 0 {
			data := b[3 : 3+128]
			if b[0] == 2 {
				data = b[3 : 3+1024]
			}
			copy(b, encoded(api.Block{Number: b[1], Data: data}, crc))
		}
		for _, crc := range both {
			wantScan(t, "round "+strconv.Itoa(round), b, crc)
		}
	}
}

// wantParts compares the parts of a Split with data and Pads behind them.
func wantParts(t *testing.T, data []byte, large bool, sizes []int) {
	t.Helper()
	got := Split(data, large)
	if len(got) != len(sizes) {
		t.Errorf("%d bytes, large %v: %d parts, want %d", len(data), large, len(got), len(sizes))
		return
	}
	all := 0
	for i, part := range got {
		if len(part) != sizes[i] {
			t.Errorf("%d bytes, large %v: part %d has %d bytes, want %d", len(data), large, i, len(part), sizes[i])
		}
		all += sizes[i]
	}
	want := append(bytes.Clone(data), bytes.Repeat([]byte{26}, all-len(data))...)
	if !bytes.Equal(slices.Concat(got...), want) {
		t.Errorf("%d bytes, large %v: other bytes", len(data), large)
	}
}

// sizesOf are the sizes of the parts in P4.3's words, by dividing.
func sizesOf(n int, large bool) []int {
	var sizes []int
	if large {
		sizes = slices.Repeat([]int{1024}, n/1024)
		n %= 1024
	}
	return append(sizes, slices.Repeat([]int{128}, (n+127)/128)...)
}

// P4.3: parts that are worked out by hand.
func TestSplitKnown(t *testing.T) {
	for _, c := range []struct {
		bytes int
		large bool
		sizes []int
	}{
		{0, false, nil},
		{0, true, nil},
		{1, false, []int{128}},
		{1, true, []int{128}},
		{127, false, []int{128}},
		{128, false, []int{128}},
		{128, true, []int{128}},
		{129, true, []int{128, 128}},
		{1023, true, []int{128, 128, 128, 128, 128, 128, 128, 128}},
		{1024, true, []int{1024}},
		{1024, false, []int{128, 128, 128, 128, 128, 128, 128, 128}},
		{1025, true, []int{1024, 128}},
		{1152, true, []int{1024, 128}},
		{1153, true, []int{1024, 128, 128}},
		{2047, true, []int{1024, 128, 128, 128, 128, 128, 128, 128, 128}},
		{2048, true, []int{1024, 1024}},
	} {
		wantParts(t, counted(c.bytes), c.large, c.sizes)
	}
}

// P4.3: parts of every number of bytes up to some, and of the greatest image.
func TestSplitAll(t *testing.T) {
	for n := range 2600 {
		for _, large := range both {
			wantParts(t, counted(n), large, sizesOf(n, large))
		}
	}
	for _, n := range []int{api.MaxImage - 1, api.MaxImage, api.MaxImage + 1, 1 << 20} {
		for _, large := range both {
			wantParts(t, counted(n), large, sizesOf(n, large))
		}
	}
}

// P4.3: data that ends in Pads, or consists of them, is not taken for what fills a part up; nil has no parts.
func TestSplitPads(t *testing.T) {
	pads := bytes.Repeat([]byte{26}, 1100)
	wantParts(t, pads, true, []int{1024, 128})
	wantParts(t, pads[:256], false, []int{128, 128})
	for _, large := range both {
		if got := Split(nil, large); len(got) != 0 {
			t.Error("nil:", got)
		}
	}
}

// P4.3: blocks are numbered from 1 on modulo 256, and have the parts' bytes, of whatever size.
func TestNumber(t *testing.T) {
	var parts [][]byte
	for i := range 1000 {
		parts = append(parts, counted(i%7*100))
	}
	parts[3] = nil
	blocks := Number(parts)
	if len(blocks) != len(parts) {
		t.Fatalf("%d blocks", len(blocks))
	}
	for i, b := range blocks {
		if int(b.Number) != (i+1)%256 {
			t.Errorf("block %d: number %d", i, b.Number)
		}
		if !bytes.Equal(b.Data, parts[i]) {
			t.Errorf("block %d: other bytes", i)
		}
	}
	for _, none := range [][][]byte{nil, {}} {
		if got := Number(none); len(got) != 0 {
			t.Error("no parts:", got)
		}
	}
}

// P4.3: the numbers at which they go round.
func TestNumberGoesRound(t *testing.T) {
	blocks := Number(make([][]byte, 513))
	for _, c := range []struct {
		at     int
		number byte
	}{{0, 1}, {1, 2}, {254, 255}, {255, 0}, {256, 1}, {511, 0}, {512, 1}} {
		if got := blocks[c.at].Number; got != c.number {
			t.Errorf("block %d: number %d, want %d", c.at, got, c.number)
		}
	}
}

// spoil alters every byte of lists, up to their capacity: what shares memory with them is altered too.
func spoil(lists ...[]byte) {
	for _, b := range lists {
		b = b[:cap(b)]
		for i := range b {
			b[i] ^= 255
		}
	}
}

// W6: arguments are not modified, and results share no memory with them, nor with each other.
func TestMemoryApart(t *testing.T) {
	for _, n := range []int{128, 1024} {
		for _, crc := range both {
			data := counted(n)
			b := made(t, api.Block{Number: 3, Data: data}, crc)
			want := bytes.Clone(b)
			got, _ := Scan(b, crc)
			if !bytes.Equal(data, counted(n)) || !bytes.Equal(b, want) {
				t.Error("an argument of Make or Scan was altered")
			}
			spoil(data)
			if !bytes.Equal(b, want) {
				t.Error("Make: the encoding shares memory with the data")
			}
			spoil(b)
			if !bytes.Equal(got.Data, counted(n)) {
				t.Error("Scan: the block shares memory with the encoding")
			}
			spoil(got.Data)
			if !bytes.Equal(b[:3], []byte{^want[0], ^want[1], ^want[2]}) {
				t.Error("Scan: the encoding shares memory with the block")
			}
		}
	}
}

// W6: the parts of a Split, and the blocks of a Number, share no memory with their arguments, nor with each other.
func TestPartsApart(t *testing.T) {
	for _, large := range both {
		data := counted(3000)
		parts := Split(data, large)
		if !bytes.Equal(data, counted(3000)) {
			t.Error("Split altered its data")
		}
		want := slices.Concat(parts...)
		spoil(data)
		if !bytes.Equal(slices.Concat(parts...), want) {
			t.Error("the parts share memory with the data")
		}
		blocks := Number(append(parts, parts[0]))
		if !bytes.Equal(slices.Concat(parts...), want) {
			t.Error("Number altered its parts")
		}
		parts0 := bytes.Clone(parts[0])
		spoil(blocks[0].Data)
		if !bytes.Equal(parts[0], parts0) || !bytes.Equal(blocks[len(blocks)-1].Data, parts0) {
			t.Error("the blocks share memory with the parts, or with each other")
		}
		spoil(parts[0])
		if !bytes.Equal(slices.Concat(parts[1:]...), want[len(parts0):]) {
			t.Error("the parts share memory with each other")
		}
	}
}

// W2: Make, Scan, Split and Number answer the same each time.
func TestSameEachTime(t *testing.T) {
	block := api.Block{Number: 1, Data: counted(128)}
	for range 3 {
		b := made(t, block, true)
		if !bytes.Equal(b, encoded(block, true)) {
			t.Error("Make")
		}
		wantScan(t, "again", b, true)
		wantParts(t, counted(300), false, []int{128, 128, 128})
		if got := Number([][]byte{counted(5)}); len(got) != 1 || got[0].Number != 1 {
			t.Error("Number", got)
		}
	}
}
