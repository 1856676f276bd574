package manifest

import (
	"math"
	"math/big"
	"math/rand"
	"regexp"
	"slices"
	"strconv"
	"strings"
	"sync"
	"testing"
	"unsafe"

	"lifeline/api"
)

// The signatures of the chapter, to the letter.
var (
	_ func() []string                   = Ways
	_ func([]api.Entry) string          = Text
	_ func(string) ([]api.Entry, error) = Parse
	_ func(api.Entry) int               = Room
	_ func([]api.Entry) (int, error)    = Check
)

// one is an entry.
func one(name string, addr, size int, print uint32, way api.Way) api.Entry {
	return api.Entry{Name: name, Addr: addr, Size: size, Print: print, Way: way}
}

// at is an entry of which only the place matters.
func at(name string, addr, size int, way api.Way) api.Entry { return one(name, addr, size, 0, way) }

// P16.1: the words of the Ways, in order.
func TestWays(t *testing.T) {
	if got := Ways(); !slices.Equal(got, []string{"check", "crc", "large", "batch"}) {
		t.Error(got)
	}
	if got := Ways(); got[api.Check] != "check" || got[api.Crc] != "crc" || got[api.Large] != "large" || got[api.Batch] != "batch" {
		t.Error(got)
	}
}

// P16.1: texts worked out by hand.
func TestText(t *testing.T) {
	for _, c := range []struct {
		e    api.Entry
		want string
	}{
		{one("a", 16, 3, 0, api.Crc), `image "a" at 0x10 size 3 print 0x0 by crc;`},
		{one("boot", 0x1000, 3, 0, api.Crc), `image "boot" at 0x1000 size 3 print 0x0 by crc;`},
		{one("b.bin", 256, 300, 7, api.Batch), `image "b.bin" at 0x100 size 300 print 0x7 by batch;`},
		{one("a", 0, 0, 0, api.Check), `image "a" at 0x0 size 0 print 0x0 by check;`},
		{one("Z_.-9", 0x2bcd, 8192, 0xdeadbeef, api.Large), `image "Z_.-9" at 0x2bcd size 8192 print 0xdeadbeef by large;`},
		{one("x", 0xabcdef, 10, 0x9abcdef0, api.Large), `image "x" at 0xabcdef size 10 print 0x9abcdef0 by large;`},
		{one("x", 10, 16, 16, api.Check), `image "x" at 0xa size 16 print 0x10 by check;`},
		{one("x", 15, 255, 255, api.Check), `image "x" at 0xf size 255 print 0xff by check;`},
		{one("x", 1<<32-1, 1<<32-1, 1<<32-1, api.Crc), `image "x" at 0xffffffff size 4294967295 print 0xffffffff by crc;`},
		{one("x", 1<<32, 1<<32, 1<<31, api.Crc), `image "x" at 0x100000000 size 4294967296 print 0x80000000 by crc;`},
		{one("x", math.MaxInt, math.MaxInt, 1, api.Crc), `image "x" at 0x7fffffffffffffff size 9223372036854775807 print 0x1 by crc;`},
		// Negative numbers.
		{one("x", -1, -1, 0, api.Batch), `image "x" at 0x-1 size -1 print 0x0 by batch;`},
		{one("x", -16, 5, 0, api.Batch), `image "x" at 0x-10 size 5 print 0x0 by batch;`},
		{one("x", 5, -160, 0, api.Batch), `image "x" at 0x5 size -160 print 0x0 by batch;`},
		{one("x", -171, -10, 0, api.Check), `image "x" at 0x-ab size -10 print 0x0 by check;`},
		{one("x", math.MinInt, math.MinInt, 0, api.Crc), `image "x" at 0x-8000000000000000 size -9223372036854775808 print 0x0 by crc;`},
		// Names that are no file names, and some that no String can denote.
		{one("", 1, 2, 3, api.Crc), `image "" at 0x1 size 2 print 0x3 by crc;`},
		{one(" ", 1, 2, 3, api.Crc), `image " " at 0x1 size 2 print 0x3 by crc;`},
		{one(`"`, 1, 2, 3, api.Crc), `image "\"" at 0x1 size 2 print 0x3 by crc;`},
		{one("a\\b\r\n\"", 1, 2, 3, api.Crc), `image "a\\b\r\n\"" at 0x1 size 2 print 0x3 by crc;`},
		{one("; #", 1, 2, 3, api.Crc), `image "; #" at 0x1 size 2 print 0x3 by crc;`},
		{one(strings.Repeat("n", 5000), 1, 2, 3, api.Crc), `image "` + strings.Repeat("n", 5000) + `" at 0x1 size 2 print 0x3 by crc;`},
		{one("\x00", 1, 2, 3, api.Crc), `image  at 0x1 size 2 print 0x3 by crc;`},
		{one("a\tb", 1, 2, 3, api.Crc), `image  at 0x1 size 2 print 0x3 by crc;`},
		{one("a\x7f", 1, 2, 3, api.Crc), `image  at 0x1 size 2 print 0x3 by crc;`},
		{one("\u00e4", 1, 2, 3, api.Large), `image  at 0x1 size 2 print 0x3 by large;`},
		{one("a\xff", 1, 2, 3, api.Batch), `image  at 0x1 size 2 print 0x3 by batch;`},
		// The zero entry.
		{api.Entry{}, `image "" at 0x0 size 0 print 0x0 by check;`},
	} {
		if got := Text([]api.Entry{c.e}); got != c.want+"\n" {
			t.Errorf("%.200q, not %.200q", got, c.want)
		}
	}
}

// P16.1: what is not a Way has the word of Check.
func TestTextNoWay(t *testing.T) {
	for _, w := range []api.Way{-1, -2, -3, -4, 4, 5, 6, 7, 8, 255, 256, 257, 1 << 32, 1<<32 + 1, math.MaxInt, math.MinInt, math.MinInt + 1} {
		if got := Text([]api.Entry{at("a", 1, 2, w)}); got != "image \"a\" at 0x1 size 2 print 0x0 by check;\n" {
			t.Error(w, got)
		}
	}
}

// P16.1: a line for each entry, in order, whatever is wrong with them, and however many there are.
func TestTextLines(t *testing.T) {
	for _, es := range [][]api.Entry{nil, {}} {
		if got := Text(es); got != "" {
			t.Errorf("%q", got)
		}
	}
	es := []api.Entry{at("b", 2, 1, api.Crc), at("a", 1, 1, api.Batch), at("a", 1, 1, api.Batch), {}, at("\n", 3, 1, api.Large)}
	want := "image \"b\" at 0x2 size 1 print 0x0 by crc;\nimage \"a\" at 0x1 size 1 print 0x0 by batch;\nimage \"a\" at 0x1 size 1 print 0x0 by batch;\nimage \"\" at 0x0 size 0 print 0x0 by check;\nimage \"\\n\" at 0x3 size 1 print 0x0 by large;\n"
	if got := Text(es); got != want {
		t.Errorf("%q", got)
	}
	const line = "image \"a\" at 0x1 size 2 print 0x0 by crc;\n"
	for _, n := range []int{1, 2, 8, 9, 100, 20000} {
		if got := Text(slices.Repeat([]api.Entry{at("a", 1, 2, api.Crc)}, n)); got != strings.Repeat(line, n) {
			t.Error(n, len(got))
		}
	}
}

// reads expects these entries of a text.
func reads(t *testing.T, s string, want ...api.Entry) {
	t.Helper()
	if got, err := Parse(s); err != nil || !slices.Equal(got, want) {
		t.Errorf("%.300q: %v, %v, not %v", s, got, err, want)
	}
}

// fails expects no entries, and an error at a place.
func fails(t *testing.T, s string, no api.Errno, place int) {
	t.Helper()
	if got, err := Parse(s); len(got) != 0 || err != api.Wrap(no, place) {
		t.Errorf("%.300q: %v, %v, not %v", s, got, err, api.Wrap(no, place))
	}
}

// P16.2: manifests.
func TestParse(t *testing.T) {
	reads(t, `image "a" at 0x10 size 3 print 0x0 by crc;`, one("a", 16, 3, 0, api.Crc))
	reads(t, `image "boot" at 0x1000 size 3 print 0x0 by crc;`, one("boot", 4096, 3, 0, api.Crc))
	reads(t, `image "a" at 1 size 2 print 3 by check;`, one("a", 1, 2, 3, api.Check))
	reads(t, `image "a" at 1 size 2 print 3 by large;`, one("a", 1, 2, 3, api.Large))
	reads(t, `image "a" at 1 size 2 print 3 by batch;`, one("a", 1, 2, 3, api.Batch))
	// Each number in both bases, up to the greatest of 32 bits.
	reads(t, `image "a" at 4294967295 size 0xffffffff print 4294967295 by crc;`, one("a", 1<<32-1, 1<<32-1, 1<<32-1, api.Crc))
	reads(t, `image "a" at 0xffffffff size 4294967295 print 0xffffffff by crc;`, one("a", 1<<32-1, 1<<32-1, 1<<32-1, api.Crc))
	reads(t, `image "a" at 2147483648 size 0x80000000 print 0x80000000 by crc;`, one("a", 1<<31, 1<<31, 1<<31, api.Crc))
	reads(t, `image "a" at 0 size 0x0 print 0 by crc;`, one("a", 0, 0, 0, api.Crc))
	reads(t, `image "a" at 10 size 0x10 print 10 by crc;`, one("a", 10, 16, 10, api.Crc))
	// What Check refuses is no error here.
	reads(t, `image "" at 0 size 0 print 0 by crc;`, one("", 0, 0, 0, api.Crc))
	reads(t, `image "\"\\\r\n ~" at 99999 size 99999 print 0 by crc;`, one("\"\\\r\n ~", 99999, 99999, 0, api.Crc))
	reads(t, `image "1 a" at 1 size 2 print 3 by crc;image "1 a" at 1 size 2 print 3 by crc;`, one("1 a", 1, 2, 3, api.Crc), one("1 a", 1, 2, 3, api.Crc))
	reads(t, `image "`+strings.Repeat("n", 4000)+`" at 1 size 2 print 3 by crc;`, one(strings.Repeat("n", 4000), 1, 2, 3, api.Crc))
	// Names that look like other tokens.
	reads(t, `image "image" at 1 size 2 print 3 by crc; image ";" at 1 size 2 print 3 by crc; image "# 7" at 1 size 2 print 3 by crc;`, one("image", 1, 2, 3, api.Crc), one(";", 1, 2, 3, api.Crc), one("# 7", 1, 2, 3, api.Crc))
}

// P16.2: spaces, tabs, line feeds and comments may be between tokens, or nothing, where a token ends anyway.
func TestParseBetween(t *testing.T) {
	a, b := one("a", 1, 2, 3, api.Crc), one("b", 4, 5, 6, api.Batch)
	for _, s := range []string{
		`image "a" at 1 size 2 print 3 by crc; image "b" at 4 size 5 print 6 by batch;`,
		`image"a"at 1 size 2 print 3 by crc;image"b"at 4 size 5 print 6 by batch;`,
		"\n\timage\n\"a\"\tat\n1\tsize\n2\tprint\n3\tby\ncrc\n;\n\n  image   \"b\"   at   4   size   5   print   6   by   batch   ;   ",
		"# x\nimage#\"c\"\n\"a\"#\nat#\n1#\nsize#\n2#;\nprint#\n3#\nby#\ncrc#\n;#\nimage \"b\" at 4 size 5 print 6 by batch;# the end",
	} {
		reads(t, s, a, b)
	}
	for _, s := range []string{"", " ", "\n", "\t", "# x", "# x\n", " #\n\n# image\n", strings.Repeat(" ", 4096)} {
		reads(t, s)
	}
}

// P16.2: what is wrong, and where, worked out by hand.
func TestParseWrong(t *testing.T) {
	for s, want := range map[string]api.Fault{
		`x`:                                     {No: api.ErrParse, At: 0},
		`images`:                                {No: api.ErrParse, At: 0},
		`imag`:                                  {No: api.ErrParse, At: 0},
		`"image"`:                               {No: api.ErrParse, At: 0},
		`7`:                                     {No: api.ErrParse, At: 0},
		`;`:                                     {No: api.ErrParse, At: 0},
		`  ;`:                                   {No: api.ErrParse, At: 2},
		`crc`:                                   {No: api.ErrParse, At: 0},
		`image`:                                 {No: api.ErrParse, At: 5},
		`image `:                                {No: api.ErrParse, At: 6},
		`image # "a"`:                           {No: api.ErrParse, At: 11},
		`image a`:                               {No: api.ErrParse, At: 6},
		`image 7`:                               {No: api.ErrParse, At: 6},
		`image ;`:                               {No: api.ErrParse, At: 6},
		`image image`:                           {No: api.ErrParse, At: 6},
		`image "a"`:                             {No: api.ErrParse, At: 9},
		`image "a" "at"`:                        {No: api.ErrParse, At: 10},
		`image "a" 1`:                           {No: api.ErrParse, At: 10},
		`image "a" att`:                         {No: api.ErrParse, At: 10},
		`image "a" size 2 at 1 print 3 by crc;`: {No: api.ErrParse, At: 10},
		`image "a" at`:                          {No: api.ErrParse, At: 12},
		`image "a" at x`:                        {No: api.ErrParse, At: 13},
		`image "a" at "1"`:                      {No: api.ErrParse, At: 13},
		`image "a" at ;`:                        {No: api.ErrParse, At: 13},
		`image "a" at 1 2`:                      {No: api.ErrParse, At: 15},
		`image "a" at 1 print`:                  {No: api.ErrParse, At: 15},
		`image "a" at 1 "size"`:                 {No: api.ErrParse, At: 15},
		`image "a" at 1 size`:                   {No: api.ErrParse, At: 19},
		`image "a" at 1 size x`:                 {No: api.ErrParse, At: 20},
		`image "a" at 1 size "2"`:               {No: api.ErrParse, At: 20},
		`image "a" at 1 size 2 by`:              {No: api.ErrParse, At: 22},
		`image "a" at 1 size 2 print print`:     {No: api.ErrParse, At: 28},
		`image "a" at 1 size 2 print "3"`:       {No: api.ErrParse, At: 28},
		`image "a" at 1 size 2 print 3 crc`:     {No: api.ErrParse, At: 30},
		`image "a" at 1 size 2 print 3 "by" crc;`:      {No: api.ErrParse, At: 30},
		`image "a" at 1 size 2 print 3;`:               {No: api.ErrParse, At: 29},
		`image "a" at 1 size 2 print 3 by`:             {No: api.ErrParse, At: 32},
		`image "a" at 1 size 2 print 3 by;`:            {No: api.ErrParse, At: 32},
		`image "a" at 1 size 2 print 3 by "crc";`:      {No: api.ErrParse, At: 33},
		`image "a" at 1 size 2 print 3 by 1;`:          {No: api.ErrParse, At: 33},
		`image "a" at 1 size 2 print 3 by x;`:          {No: api.ErrName, At: 33},
		`image "a" at 1 size 2 print 3 by x`:           {No: api.ErrName, At: 33},
		`image "a" at 1 size 2 print 3 by x x`:         {No: api.ErrName, At: 33},
		`image "a" at 1 size 2 print 3 by   by;`:       {No: api.ErrName, At: 35},
		`image "a" at 1 size 2 print 3 by image;`:      {No: api.ErrName, At: 33},
		`image "a" at 1 size 2 print 3 by cr;`:         {No: api.ErrName, At: 33},
		`image "a" at 1 size 2 print 3 by crc16;`:      {No: api.ErrName, At: 33},
		`image "a" at 1 size 2 print 3 by check-crc;`:  {No: api.ErrName, At: 33},
		`image "a" at 1 size 2 print 3 by batches;`:    {No: api.ErrName, At: 33},
		`image "a" at 1 size 2 print 3 by crc`:         {No: api.ErrParse, At: 36},
		`image "a" at 1 size 2 print 3 by crc   `:      {No: api.ErrParse, At: 39},
		`image "a" at 1 size 2 print 3 by crc # ;`:     {No: api.ErrParse, At: 40},
		`image "a" at 1 size 2 print 3 by crc ";"`:     {No: api.ErrParse, At: 37},
		`image "a" at 1 size 2 print 3 by crc:`:        {No: api.ErrParse, At: 36},
		`image "a" at 1 size 2 print 3 by crc,`:        {No: api.ErrParse, At: 36},
		`image "a" at 1 size 2 print 3 by crc}`:        {No: api.ErrParse, At: 36},
		`image "a" at 1 size 2 print 3 by crc crc;`:    {No: api.ErrParse, At: 37},
		`image "a" at 1 size 2 print 3 by crc image`:   {No: api.ErrParse, At: 37},
		`image "a" at 1 size 2 print 3 by crc;;`:       {No: api.ErrParse, At: 37},
		`image "a" at 1 size 2 print 3 by crc; x`:      {No: api.ErrParse, At: 38},
		`image "a" at 1 size 2 print 3 by crc; image`:  {No: api.ErrParse, At: 43},
		`image "a" at 1 size 2 print 3 by crc; "image`: {No: api.ErrLex, At: 38},
		// Of several errors the first one in the order of the tokens.
		`image a at 1 size 2 print 3 by x;`:                                         {No: api.ErrParse, At: 6},
		`image "a" at 1 size 2 print 3 by x; image b`:                               {No: api.ErrName, At: 33},
		`image "a" at 1 size 2 print 3 by crc: image "a" at 1 size 2 print 3 by x;`: {No: api.ErrParse, At: 36},
		// A by that cannot occur where it is comes before the word behind it.
		`by x;`:       {No: api.ErrParse, At: 0},
		`image by x;`: {No: api.ErrParse, At: 6},
	} {
		fails(t, s, want.No, want.At)
		before := "image \"z\" at 0x7 size 1 print 0 by batch;\n# and\n"
		fails(t, before+s, want.No, len(before)+want.At)
		fails(t, before+before+s, want.No, 2*len(before)+want.At)
	}
}

// P16.2: the error of Cut comes before those of the tokens, wherever it is.
func TestParseCut(t *testing.T) {
	const good = `image "a" at 1 size 2 print 3 by crc;`
	for s, want := range map[string]api.Fault{
		`$`:                                     {No: api.ErrLex, At: 0},
		`x $`:                                   {No: api.ErrLex, At: 2},
		`; = ;`:                                 {No: api.ErrLex, At: 2},
		`x 01 $`:                                {No: api.ErrLex, At: 2},
		`image "a`:                              {No: api.ErrLex, At: 6},
		`image "\t" at`:                         {No: api.ErrLex, At: 6},
		`Image "a"`:                             {No: api.ErrLex, At: 0},
		`image "a" at -1`:                       {No: api.ErrLex, At: 13},
		`image "a" at 0x-1`:                     {No: api.ErrLex, At: 13},
		`image "a" at 4294967296`:               {No: api.ErrLex, At: 13},
		`image "a" at 01`:                       {No: api.ErrLex, At: 13},
		`image "a" at 1 size 2 print 3 by CRC;`: {No: api.ErrLex, At: 33},
		`image "a" at 1 size 2 print 3 by x; $`: {No: api.ErrLex, At: 36},
		good + ` x .`:                           {No: api.ErrLex, At: 40},
		good + good + "\r":                      {No: api.ErrLex, At: 74},
		good + "\x00":                           {No: api.ErrLex, At: 37},
	} {
		fails(t, s, want.No, want.At)
	}
}

// P16.2: a text has up to 4096 bytes, and as many entries as there is room for.
func TestParseLong(t *testing.T) {
	const short = `image""at 0 size 0 print 0 by crc;`
	n := 4096 / len(short)
	all := strings.Repeat(short, n)
	for _, k := range []int{2, 7, 8, 9, 16, n} {
		reads(t, all[:k*len(short)], slices.Repeat([]api.Entry{at("", 0, 0, api.Crc)}, k)...)
	}
	all += strings.Repeat(" ", 4096-len(all))
	reads(t, all, slices.Repeat([]api.Entry{at("", 0, 0, api.Crc)}, n)...)
	fails(t, all+" ", api.ErrLimit, 0)
	fails(t, all[:4095]+"x", api.ErrParse, 4095)
	fails(t, all[:4095]+"$", api.ErrLex, 4095)
	fails(t, "x"+all, api.ErrLimit, 0)
	fails(t, strings.Repeat("$", 4097), api.ErrLimit, 0)
	fails(t, strings.Repeat("x", 4096), api.ErrParse, 0)
	fails(t, strings.Repeat(";", 1<<20), api.ErrLimit, 0)
	fails(t, short+strings.Repeat(" ", 4000)+"by", api.ErrParse, len(short)+4000)
}

// order is the sorts of an entry's tokens.
const order = "iqanznpnbw;"

// sortOf is the sort of a token by the text that stands for it: a word of the form has one of its own, all other words are of one sort.
func sortOf(s string) byte {
	switch c := s[0]; {
	case c == '"':
		return 'q'
	case c >= '0' && c <= '9':
		return 'n'
	}
	switch s {
	case "image":
		return 'i'
	case "at":
		return 'a'
	case "size":
		return 'z'
	case "print":
		return 'p'
	case "by":
		return 'b'
	case ";":
		return ';'
	case ":", ",", "{", "}":
		return 's'
	}
	return 'o'
}

// isWord tells whether a sort is one of words.
func isWord(sort byte) bool { return strings.IndexByte("iazpbo", sort) >= 0 }

// judge is what P16.2 says of a text that consists of tokens that begin at these places.
func judge(parts []string, places []int, length int) ([]api.Entry, error) {
	for k, part := range parts {
		got, want := sortOf(part), order[k%len(order)]
		if want == 'w' && isWord(got) {
			if part != "check" && part != "crc" && part != "large" && part != "batch" {
				return nil, api.Wrap(api.ErrName, places[k])
			}
		} else if got != want {
			return nil, api.Wrap(api.ErrParse, places[k])
		}
	}
	if len(parts)%len(order) != 0 {
		return nil, api.Wrap(api.ErrParse, length)
	}
	var es []api.Entry
	for k := 0; k < len(parts); k += len(order) {
		es = append(es, built(parts[k:]))
	}
	return es, nil
}

// built is the entry of the first tokens.
func built(parts []string) api.Entry {
	name, err := strconv.Unquote(parts[1])
	var numbers [3]int64
	for k := range numbers {
		var wrong error
		numbers[k], wrong = strconv.ParseInt(parts[3+2*k], 0, 64)
		if wrong != nil {
			err = wrong
		}
	}
	if err != nil {
		panic(err)
	}
	way := map[string]api.Way{"check": 0, "crc": 1, "large": 2, "batch": 3}[parts[9]]
	return one(name, int(numbers[0]), int(numbers[1]), uint32(numbers[2]), way)
}

// agree lays tokens one behind the other, with something between, and holds Parse against the judge.
func agree(t *testing.T, parts []string, between func() string) {
	t.Helper()
	text, places := between(), []int(nil)
	for _, part := range parts {
		places = append(places, len(text))
		text += part + between()
	}
	want, fault := judge(parts, places, len(text))
	if got, err := Parse(text); err != fault || !slices.Equal(got, want) {
		t.Fatalf("%q: %v, %v, not %v, %v", text, got, err, want, fault)
	}
}

// space is what stands between tokens at least.
func space() string { return " " }

// others are tokens of all sorts.
var others = []string{"image", "at", "size", "print", "by", "check", "crc", "large", "batch", "x", "images", "b", "a-t", `"a"`, `""`, `"image"`, `"at"`, `"size"`, `"print"`, `"by"`, `"crc"`, `";"`, "0", "7", "0x1f", "4294967295", ";", ":", ",", "{", "}"}

// entries are the tokens of so many entries, each with numbers of its own.
func entries(n int) []string {
	var parts []string
	for k := range n {
		parts = append(parts, "image", `"n`+strconv.Itoa(k)+`"`, "at", strconv.Itoa(1000*k), "size", "0x"+strconv.Itoa(k+1), "print", strconv.Itoa(70+k), "by", []string{"crc", "batch", "check", "large"}[k%4], ";")
	}
	return parts
}

// P16.2: entries of which one token is another one, is missing, or has another one ahead of it, and two are exchanged; each begin of it, too.
func TestParseEveryToken(t *testing.T) {
	for n := range 4 {
		parts := entries(n)
		agree(t, parts, space)
		for k := range parts {
			agree(t, parts[:k], space)
			agree(t, slices.Delete(slices.Clone(parts), k, k+1), space)
			for _, other := range others {
				turned := slices.Clone(parts)
				turned[k] = other
				agree(t, turned, space)
				agree(t, turned[:k+1], space)
				agree(t, slices.Insert(slices.Clone(parts), k, other), space)
			}
			for j := range k {
				turned := slices.Clone(parts)
				turned[k], turned[j] = turned[j], turned[k]
				agree(t, turned, space)
			}
		}
		for _, other := range others {
			agree(t, append(slices.Clone(parts), other), space)
		}
	}
}

// P16.2: every sequence of up to three tokens, alone, and behind a part of an entry.
func TestParseSmall(t *testing.T) {
	for _, a := range others {
		for _, b := range others {
			agree(t, []string{a, b}, space)
			agree(t, append(entries(1)[:9], a, b), space)
			for _, c := range others {
				agree(t, []string{a, b, c}, space)
				agree(t, append(entries(1)[:8], a, b, c), space)
			}
		}
	}
}

// P16.2: manifests by chance, with spaces and comments by chance, of which some are wrong in a token or two.
func TestParseChance(t *testing.T) {
	r := rand.New(rand.NewSource(162))
	between := func() string {
		return []string{" ", "  ", "\n", "\t", "\n\n", " # x\n", "#\n", "# \"; by x\n ", "#$\n"}[r.Intn(9)]
	}
	names := []string{`"a"`, `""`, `"boot-1.bin"`, `"\"\\\r\n"`, `"image"`, `"# ;"`, `"~ !"`}
	numbers := []string{"0", "1", "128", "8192", "4294967295", "0x0", "0x10", "0xabcdef", "0xffffffff", "0x80000000"}
	ways := []string{"check", "crc", "large", "batch"}
	for range 20000 {
		var parts []string
		for range r.Intn(5) {
			parts = append(parts, "image", names[r.Intn(len(names))], "at", numbers[r.Intn(len(numbers))], "size", numbers[r.Intn(len(numbers))], "print", numbers[r.Intn(len(numbers))], "by", ways[r.Intn(4)], ";")
		}
		agree(t, parts, between)
		if len(parts) > 0 {
			parts[r.Intn(len(parts))] = others[r.Intn(len(others))]
			agree(t, parts, between)
			agree(t, parts[:r.Intn(len(parts))], between)
			parts[r.Intn(len(parts))] = others[r.Intn(len(others))]
			agree(t, parts, between)
		}
	}
}

// P16.1, P16.2: a manifest is parsed as what it was formatted from, if a text can tell it.
func TestBack(t *testing.T) {
	r := rand.New(rand.NewSource(161))
	names := []string{"a", "boot", "Z_.-9", strings.Repeat("n", 32), "", " ", "\"", "\\", "\r\n", "# ;", "a\\\"b"}
	numbers := []int{0, 1, 9, 10, 15, 16, 127, 128, 8192, 16384, 65536, 1<<31 - 1, 1 << 31, 1<<32 - 1}
	number := func() int {
		if r.Intn(2) == 0 {
			return numbers[r.Intn(len(numbers))]
		}
		return int(r.Uint32() >> r.Intn(32))
	}
	for range 20000 {
		var es []api.Entry
		for range r.Intn(9) {
			es = append(es, one(names[r.Intn(len(names))], number(), number(), uint32(number()), api.Way(r.Intn(4))))
		}
		reads(t, Text(es), es...)
	}
	// What no text can tell: of a name the String is missing, of a negative number or a great one the token is wrong.
	fails(t, Text([]api.Entry{at("\x00", 1, 2, 0)}), api.ErrParse, 7)
	fails(t, Text([]api.Entry{at("a", -1, 2, 0)}), api.ErrLex, 13)
	fails(t, Text([]api.Entry{at("a", 1, -2, 0)}), api.ErrLex, 22)
	fails(t, Text([]api.Entry{at("a", 1<<32, 2, 0)}), api.ErrLex, 13)
	fails(t, Text([]api.Entry{at("a", 1, 1<<32, 0)}), api.ErrLex, 22)
	reads(t, Text([]api.Entry{at("a", 1, 2, 9)}), at("a", 1, 2, api.Check))
}

// roomOf is the Room of P16.3, by counting blocks.
func roomOf(size int, way api.Way) int {
	switch {
	case size < 0:
		return 0
	case size > 8192:
		return 8192
	case way == api.Batch:
		return size
	}
	blocks := 0
	for 128*blocks < size {
		blocks++
	}
	return 128 * blocks
}

// P16.3: rooms worked out by hand.
func TestRoom(t *testing.T) {
	for _, c := range []struct{ size, batch, other int }{
		{0, 0, 0}, {1, 1, 128}, {2, 2, 128}, {127, 127, 128}, {128, 128, 128}, {129, 129, 256}, {255, 255, 256}, {256, 256, 256}, {257, 257, 384},
		{1000, 1000, 1024}, {1023, 1023, 1024}, {1024, 1024, 1024}, {1025, 1025, 1152}, {2047, 2047, 2048}, {2049, 2049, 2176},
		{8063, 8063, 8064}, {8064, 8064, 8064}, {8065, 8065, 8192}, {8191, 8191, 8192}, {8192, 8192, 8192},
		{8193, 8192, 8192}, {8320, 8192, 8192}, {9000, 8192, 8192}, {16384, 8192, 8192}, {1 << 32, 8192, 8192}, {1<<32 + 5, 8192, 8192}, {math.MaxInt, 8192, 8192}, {math.MaxInt - 126, 8192, 8192},
		{-1, 0, 0}, {-2, 0, 0}, {-127, 0, 0}, {-128, 0, 0}, {-129, 0, 0}, {-8192, 0, 0}, {-1 << 32, 0, 0}, {math.MinInt, 0, 0}, {math.MinInt + 1, 0, 0},
	} {
		if got := Room(at("a", 0, c.size, api.Batch)); got != c.batch {
			t.Error(c.size, "batch", got)
		}
		for _, w := range []api.Way{api.Check, api.Crc, api.Large, -1, -3, 4, 5, 7, 255, 1<<32 + 3, math.MaxInt, math.MinInt} {
			if got := Room(at("a", 0, c.size, w)); got != c.other {
				t.Error(c.size, w, got)
			}
		}
	}
	if Room(api.Entry{}) != 0 {
		t.Error(Room(api.Entry{}))
	}
}

// P16.3: each size, by each Way, wherever the entry is and whatever it is called.
func TestRoomEverySize(t *testing.T) {
	for size := -300; size < 8700; size++ {
		for w := api.Way(-2); w < 7; w++ {
			want := roomOf(size, w)
			for _, e := range []api.Entry{at("a", 0, size, w), one("", -5, size, 9, w), at("b c", math.MaxInt, size, w)} {
				if got := Room(e); got != want {
					t.Fatal(e, got, want)
				}
			}
		}
	}
}

// checks expects a result of Check: the Errno itself, or nil.
func checks(t *testing.T, es []api.Entry, k int, want error) {
	t.Helper()
	if got, err := Check(es); got != k || err != want {
		t.Errorf("%v: %v, %v, not %v, %v", es, got, err, k, want)
	}
}

// rows are so many entries without an error, one behind the other.
func rows(n int) []api.Entry {
	var es []api.Entry
	for k := range n {
		es = append(es, at("n"+strconv.Itoa(k), 256*k, 200, api.Way(k%4)))
	}
	return es
}

// P16.4: the number of entries comes first.
func TestCheckLimit(t *testing.T) {
	checks(t, nil, -1, api.ErrLimit)
	checks(t, []api.Entry{}, -1, api.ErrLimit)
	for n := 1; n <= 8; n++ {
		checks(t, rows(n), 0, nil)
	}
	for _, n := range []int{9, 10, 16, 17, 100, 256, 257, 264, 1<<16 + 1} {
		checks(t, rows(n), -1, api.ErrLimit)
		checks(t, make([]api.Entry, n), -1, api.ErrLimit)
	}
	checks(t, make([]api.Entry, 8), 0, api.ErrName)
}

// P16.4: an entry alone.
func TestCheckOne(t *testing.T) {
	for _, c := range []struct {
		e    api.Entry
		want error
	}{
		{one("a", 16, 3, 0, api.Crc), nil},
		{one("a", 16, 3, 1<<32-1, api.Crc), nil},
		// Names.
		{at("Z", 0, 1, 0), nil}, {at("a1", 0, 1, 0), nil}, {at("a.-_", 0, 1, 0), nil}, {at(strings.Repeat("n", 32), 0, 1, 0), nil},
		{at("", 0, 1, 0), api.ErrName}, {at("1", 0, 1, 0), api.ErrName}, {at("-a", 0, 1, 0), api.ErrName}, {at(".a", 0, 1, 0), api.ErrName}, {at("_", 0, 1, 0), api.ErrName}, {at("a b", 0, 1, 0), api.ErrName}, {at("a/b", 0, 1, 0), api.ErrName}, {at("a\n", 0, 1, 0), api.ErrName}, {at("a\x00", 0, 1, 0), api.ErrName}, {at("\u00e4", 0, 1, 0), api.ErrName}, {at(strings.Repeat("n", 33), 0, 1, 0), api.ErrName}, {at(strings.Repeat("n", 1<<16), 0, 1, 0), api.ErrName}, {at("\"a\"", 0, 1, 0), api.ErrName},
		// Addr below 0.
		{at("a", 0, 1, api.Batch), nil}, {at("a", -1, 1, api.Batch), api.ErrRange}, {at("a", -1, 8192, api.Crc), api.ErrRange}, {at("a", -128, 128, api.Crc), api.ErrRange}, {at("a", math.MinInt, 1, 0), api.ErrRange}, {at("a", math.MinInt+1, 8192, 0), api.ErrRange}, {at("a", -1<<32, 1, 0), api.ErrRange}, {at("a", -16384, 1, 0), api.ErrRange},
		// Size.
		{at("a", 0, 0, api.Crc), api.ErrRange}, {at("a", 0, 0, api.Batch), api.ErrRange}, {at("a", 0, -1, api.Crc), api.ErrRange}, {at("a", 0, math.MinInt, api.Batch), api.ErrRange}, {at("a", 0, 8192, api.Crc), nil}, {at("a", 0, 8192, api.Batch), nil}, {at("a", 0, 8193, api.Crc), api.ErrRange}, {at("a", 0, 8193, api.Batch), api.ErrRange}, {at("a", 0, 1<<32+1, api.Crc), api.ErrRange}, {at("a", 0, math.MaxInt, api.Large), api.ErrRange}, {at("a", 0, 16384, api.Check), api.ErrRange},
		// The end, with the bytes that the last block adds, or without.
		{at("a", 16384-128, 1, api.Check), nil}, {at("a", 16384-127, 1, api.Check), api.ErrRange}, {at("a", 16384-127, 1, api.Crc), api.ErrRange}, {at("a", 16384-127, 1, api.Large), api.ErrRange}, {at("a", 16384-127, 127, api.Batch), nil}, {at("a", 16384-127, 128, api.Batch), api.ErrRange},
		{at("a", 16383, 1, api.Batch), nil}, {at("a", 16384, 1, api.Batch), api.ErrRange}, {at("a", 16383, 2, api.Batch), api.ErrRange}, {at("a", 16383, 1, api.Crc), api.ErrRange},
		{at("a", 8192, 8192, api.Crc), nil}, {at("a", 8192, 8065, api.Large), nil}, {at("a", 8193, 8065, api.Large), api.ErrRange}, {at("a", 8193, 8192, api.Batch), api.ErrRange}, {at("a", 8193, 8191, api.Batch), nil}, {at("a", 8193, 8191, api.Check), api.ErrRange},
		{at("a", 16384, 0, api.Batch), api.ErrRange},
		// Addresses behind which the sum wraps around.
		{at("a", math.MaxInt, 1, api.Batch), api.ErrRange}, {at("a", math.MaxInt, 8192, api.Crc), api.ErrRange}, {at("a", math.MaxInt-127, 1, api.Crc), api.ErrRange}, {at("a", math.MaxInt-8191, 8192, api.Large), api.ErrRange}, {at("a", 1<<32, 1, api.Crc), api.ErrRange}, {at("a", 1<<32+5, 1, api.Crc), api.ErrRange}, {at("a", 1<<31, 1, api.Crc), api.ErrRange}, {at("a", 65536, 1, api.Crc), api.ErrRange},
		// Ways.
		{at("a", 0, 1, api.Check), nil}, {at("a", 0, 1, api.Crc), nil}, {at("a", 0, 1, api.Large), nil}, {at("a", 0, 1, api.Batch), nil}, {at("a", 0, 1, -1), api.ErrRange}, {at("a", 0, 1, 4), api.ErrRange}, {at("a", 0, 1, 5), api.ErrRange}, {at("a", 0, 1, 256), api.ErrRange}, {at("a", 0, 1, 1<<32), api.ErrRange}, {at("a", 0, 1, math.MaxInt), api.ErrRange}, {at("a", 0, 1, math.MinInt), api.ErrRange},
		// The name comes before the numbers.
		{at("", -1, 0, 4), api.ErrName}, {at("1", math.MaxInt, 8193, -1), api.ErrName},
	} {
		checks(t, []api.Entry{c.e}, 0, c.want)
		// The same behind entries far from it, as the last one of eight.
		if c.want != nil {
			far := rows(7)
			for k := range far {
				far[k].Addr = 8000 + 16*k
				far[k].Size, far[k].Way = 16, api.Batch
			}
			checks(t, append(far, c.e), 7, c.want)
		}
	}
}

// P16.4: a name that is there twice, anywhere ahead of it.
func TestCheckTwice(t *testing.T) {
	for n := 2; n <= 8; n++ {
		for k := range n {
			for j := range k {
				es := rows(n)
				es[k].Name = es[j].Name
				checks(t, es, k, api.ErrTwice)
			}
		}
	}
	for _, names := range [][2]string{{"a", "A"}, {"a", "aa"}, {"a", "a."}, {"ab", "a"}, {strings.Repeat("n", 31), strings.Repeat("n", 32)}, {strings.Repeat("n", 31) + "a", strings.Repeat("n", 31) + "b"}, {"a-b", "a_b"}} {
		checks(t, []api.Entry{at(names[0], 0, 1, 0), at(names[1], 128, 1, 0)}, 0, nil)
	}
	// Three times: the second one is the first with an error.
	es := rows(4)
	es[1].Name, es[2].Name, es[3].Name = "x", "x", "x"
	checks(t, es, 2, api.ErrTwice)
}

// P16.4: bytes that lie in those of an entry ahead, anywhere ahead, and those that lie beside them.
func TestCheckOverlap(t *testing.T) {
	for _, c := range []struct {
		a, b api.Entry
		want error
	}{
		// Beside each other, with whole blocks.
		{at("a", 0, 1, api.Crc), at("b", 128, 1, api.Crc), nil},
		{at("a", 128, 1, api.Crc), at("b", 0, 1, api.Crc), nil},
		{at("a", 0, 1, api.Crc), at("b", 127, 1, api.Crc), api.ErrOverlap},
		{at("a", 127, 1, api.Crc), at("b", 0, 1, api.Crc), api.ErrOverlap},
		{at("a", 0, 129, api.Large), at("b", 256, 1, api.Check), nil},
		{at("a", 0, 129, api.Large), at("b", 255, 1, api.Check), api.ErrOverlap},
		{at("a", 256, 1, api.Check), at("b", 0, 129, api.Large), nil},
		{at("a", 255, 1, api.Check), at("b", 0, 129, api.Large), api.ErrOverlap},
		// A batch takes no more than its size.
		{at("a", 0, 1, api.Batch), at("b", 1, 1, api.Batch), nil},
		{at("a", 1, 1, api.Batch), at("b", 0, 1, api.Batch), nil},
		{at("a", 0, 2, api.Batch), at("b", 1, 1, api.Batch), api.ErrOverlap},
		{at("a", 1, 1, api.Batch), at("b", 0, 2, api.Batch), api.ErrOverlap},
		{at("a", 0, 100, api.Batch), at("b", 100, 1, api.Crc), nil},
		{at("a", 100, 1, api.Crc), at("b", 0, 100, api.Batch), nil},
		{at("a", 0, 100, api.Crc), at("b", 100, 1, api.Batch), api.ErrOverlap},
		{at("a", 100, 1, api.Batch), at("b", 0, 100, api.Crc), api.ErrOverlap},
		{at("a", 0, 100, api.Crc), at("b", 127, 1, api.Batch), api.ErrOverlap},
		{at("a", 0, 100, api.Crc), at("b", 128, 1, api.Batch), nil},
		// The same bytes, and some within others.
		{at("a", 5, 9, api.Batch), at("b", 5, 9, api.Batch), api.ErrOverlap},
		{at("a", 0, 8192, api.Crc), at("b", 4000, 1, api.Batch), api.ErrOverlap},
		{at("a", 4000, 1, api.Batch), at("b", 0, 8192, api.Crc), api.ErrOverlap},
		{at("a", 0, 8192, api.Crc), at("b", 8191, 1, api.Batch), api.ErrOverlap},
		{at("a", 0, 8192, api.Crc), at("b", 0, 1, api.Batch), api.ErrOverlap},
		{at("a", 0, 8192, api.Crc), at("b", 8192, 8192, api.Large), nil},
		{at("a", 8192, 8192, api.Large), at("b", 0, 8192, api.Crc), nil},
		{at("a", 8191, 8192, api.Large), at("b", 0, 8192, api.Crc), api.ErrOverlap},
	} {
		k := 0
		if c.want != nil {
			k = 1
		}
		checks(t, []api.Entry{c.a, c.b}, k, c.want)
	}
	for k := range 8 {
		for j := range k {
			es := rows(8)
			es[k].Addr = es[j].Addr + 7
			checks(t, es, k, api.ErrOverlap)
		}
	}
	// Not by an entry behind it: of two that overlap the second one has the error.
	es := rows(8)
	es[2].Addr = es[6].Addr
	checks(t, es, 6, api.ErrOverlap)
}

// P16.4: of an entry's errors the first one in the chapter's order, of several entries the first one.
func TestCheckOrder(t *testing.T) {
	good := at("a", 0, 200, api.Crc)
	for _, c := range []struct {
		e    api.Entry
		want error
	}{
		{at("b", 256, 1, api.Crc), nil},
		{at("", 0, 200, api.Crc), api.ErrName}, {at("", 0, 200, 4), api.ErrName}, {at("", 256, 0, api.Crc), api.ErrName}, {at("1", -1, 1, 0), api.ErrName},
		{at("a", 256, 1, api.Crc), api.ErrTwice}, {at("a", 0, 200, api.Crc), api.ErrTwice}, {at("a", -1, 0, 4), api.ErrTwice}, {at("a", 255, 1, 4), api.ErrTwice},
		{at("b", 255, 1, 4), api.ErrRange}, {at("b", -1, 200, api.Crc), api.ErrRange}, {at("b", 0, 0, api.Crc), api.ErrRange}, {at("b", 0, 8193, api.Crc), api.ErrRange}, {at("b", 0, 1, -1), api.ErrRange}, {at("b", 100, math.MaxInt, api.Batch), api.ErrRange},
		{at("b", 255, 1, api.Crc), api.ErrOverlap},
	} {
		k := 0
		if c.want != nil {
			k = 1
		}
		checks(t, []api.Entry{good, c.e}, k, c.want)
		// What is behind it does not matter, unless it is without an error.
		for _, behind := range []api.Entry{at("", 0, 0, 9), at("a", 0, 0, 9), at("z", -1, 0, 9), at("z", 0, 1, 0)} {
			if c.want != nil {
				checks(t, []api.Entry{good, c.e, behind, behind}, 1, c.want)
			} else if _, err := Check([]api.Entry{good, c.e, behind, behind}); err == nil {
				t.Error(behind)
			}
		}
	}
	// The same wrong name twice is wrong at its first place, and so is the same wrong place.
	checks(t, []api.Entry{at("", 0, 1, 0), at("", 0, 1, 0)}, 0, api.ErrName)
	checks(t, []api.Entry{at("a", 0, 0, 0), at("a", 0, 0, 0)}, 0, api.ErrRange)
	checks(t, []api.Entry{at("a", 0, 1, 0), at("a", 0, 1, 0)}, 1, api.ErrTwice)
	checks(t, []api.Entry{at("a", 0, 1, 0), at("b", 0, 1, 0)}, 1, api.ErrOverlap)
	checks(t, []api.Entry{good, at("b", 300, 1, 0), at("b", 600, 1, 0), at("c", 0, 1, 0)}, 2, api.ErrTwice)
	checks(t, []api.Entry{good, at("b", 300, 1, 0), at("c", 0, 1, 0), at("b", 600, 1, 0)}, 2, api.ErrOverlap)
}

// named is a file name of the chapter of headers.
var named = regexp.MustCompile(`^[a-zA-Z][a-zA-Z0-9._-]{0,31}$`)

// ranged tells whether P16.4 takes an entry's numbers, with a sum that does not wrap around.
func ranged(e api.Entry) bool {
	end := new(big.Int).Add(big.NewInt(int64(e.Addr)), big.NewInt(int64(roomOf(e.Size, e.Way))))
	return e.Addr >= 0 && e.Size >= 1 && e.Size <= 8192 && end.Cmp(big.NewInt(16384)) <= 0 && e.Way >= 0 && e.Way <= 3
}

// verdict is what P16.4 says of a manifest, byte by byte of the memory.
func verdict(es []api.Entry) (int, error) {
	if len(es) == 0 || len(es) > 8 {
		return -1, api.ErrLimit
	}
	var taken [16384]bool
	seen := map[string]int{}
	for k, e := range es {
		if !named.MatchString(e.Name) {
			return k, api.ErrName
		}
		if seen[e.Name]++; seen[e.Name] > 1 {
			return k, api.ErrTwice
		}
		if !ranged(e) {
			return k, api.ErrRange
		}
		mine := taken[e.Addr : e.Addr+roomOf(e.Size, e.Way)]
		if slices.Contains(mine, true) {
			return k, api.ErrOverlap
		}
		for b := range mine {
			mine[b] = true
		}
	}
	return 0, nil
}

// judged holds Check against the verdict.
func judged(t *testing.T, es []api.Entry) error {
	t.Helper()
	k, want := verdict(es)
	if got, err := Check(es); got != k || err != want {
		t.Fatalf("%v: %v, %v, not %v, %v", es, got, err, k, want)
	}
	return want
}

// P16.4: every two entries of some places, sizes and Ways.
func TestCheckPairs(t *testing.T) {
	var all []api.Entry
	for _, addr := range []int{-1, 0, 1, 127, 128, 129, 255, 256, 8191, 8192, 8193, 16255, 16256, 16257, 16383, 16384, math.MaxInt} {
		for _, size := range []int{0, 1, 2, 127, 128, 129, 8191, 8192, 8193} {
			for _, way := range []api.Way{api.Check, api.Crc, api.Large, api.Batch, 4} {
				all = append(all, at("a", addr, size, way))
			}
		}
	}
	for k, a := range all {
		judged(t, all[k:k+1])
		if _, err := verdict(all[k : k+1]); err != nil {
			continue
		}
		for _, b := range all {
			b.Name = "b"
			judged(t, []api.Entry{a, b})
		}
	}
}

// P16.4: manifests by chance; most of them are small, so that some have no error.
func TestCheckChance(t *testing.T) {
	r := rand.New(rand.NewSource(164))
	names := []string{"a", "b", "c", "d", "e", "f", "g", "h", "A", "a.b", strings.Repeat("n", 32), "i", "j", "k", "l", "m", "", "1", "a b", strings.Repeat("n", 33)}
	found := map[error]int{}
	for range 60000 {
		var es []api.Entry
		for range r.Intn(10) {
			e := at(names[r.Intn(16)], r.Intn(16384), 1+r.Intn(1<<r.Intn(14)), api.Way(r.Intn(4)))
			if e.Size > 8192 {
				e.Size = 8192
			}
			switch r.Intn(40) {
			case 0:
				e.Name = names[r.Intn(len(names))]
			case 1:
				e.Addr = []int{-1, 16384, math.MinInt, math.MaxInt, 0, 16256, 1 << 32}[r.Intn(7)]
			case 2:
				e.Size = []int{0, -1, 8193, 8192, math.MaxInt, math.MinInt, 1 << 32}[r.Intn(7)]
			case 3:
				e.Way = []api.Way{-1, 4, math.MaxInt, math.MinInt}[r.Intn(4)]
			}
			es = append(es, e)
		}
		found[judged(t, es)]++
	}
	for _, want := range []error{nil, api.ErrLimit, api.ErrName, api.ErrTwice, api.ErrRange, api.ErrOverlap} {
		if found[want] < 100 {
			t.Error(want, found)
		}
	}
}

// within tells whether a text lies in the memory of another one.
func within(part, whole string) bool {
	p, b := uintptr(unsafe.Pointer(unsafe.StringData(part))), uintptr(unsafe.Pointer(unsafe.StringData(whole)))
	return len(part) > 0 && p >= b && p < b+uintptr(len(whole))
}

// W6: arguments are not altered, and no answer shares memory with one, or with another answer.
func TestMemory(t *testing.T) {
	spoilt := Ways()
	for k := range spoilt[:cap(spoilt)] {
		spoilt[:cap(spoilt)][k] = "spoilt"
	}
	if got := Ways(); !slices.Equal(got, []string{"check", "crc", "large", "batch"}) {
		t.Error(got)
	}
	const want = "image \"boot\" at 0x1 size 2 print 0x3 by batch;\nimage \"b\" at 0x4 size 5 print 0x6 by crc;\n"
	s := strings.Clone(want)
	boot, b := one("boot", 1, 2, 3, api.Batch), one("b", 4, 5, 6, api.Crc)
	first, _ := Parse(s)
	second, _ := Parse(s)
	for _, e := range first {
		if within(e.Name, s) {
			t.Error(e.Name, "lies in the text")
		}
	}
	for k := range first[:cap(first)] {
		first[:cap(first)][k] = at("spoilt", 9, 9, 9)
	}
	if !slices.Equal(second, []api.Entry{boot, b}) {
		t.Error(second)
	}
	reads(t, s, boot, b)
	whole := []api.Entry{boot, b, at("", -1, 9, 9), at("z", 1, 1, 1)}
	kept := slices.Clone(whole)
	if got := Text(whole[:2]); got != want || within(whole[0].Name, got) {
		t.Errorf("%q", got)
	}
	checks(t, whole[:1], 0, nil)
	checks(t, whole[:2], 0, nil)
	checks(t, whole[:3], 2, api.ErrName)
	for _, e := range whole {
		Room(e)
	}
	if !slices.Equal(whole, kept) {
		t.Error(whole)
	}
}

// W2: what was asked before, or is at the same time, does not matter.
func TestApart(t *testing.T) {
	const s = "image \"a\" at 0x1 size 2 print 0x3 by batch;\n"
	e := one("a", 1, 2, 3, api.Batch)
	ask := func() {
		got, err := Parse(s)
		k, wrong := Check(got)
		if err != nil || !slices.Equal(got, []api.Entry{e}) || k != 0 || wrong != nil || Text(got) != s || Room(e) != 2 || Ways()[3] != "batch" {
			t.Error(got, err, k, wrong)
		}
	}
	ask()
	fails(t, s+"image", api.ErrParse, len(s)+5)
	ask()
	fails(t, s+"$", api.ErrLex, len(s))
	checks(t, []api.Entry{e, e}, 1, api.ErrTwice)
	ask()
	checks(t, nil, -1, api.ErrLimit)
	Text([]api.Entry{{Name: "\x00"}})
	var group sync.WaitGroup
	for range 8 {
		group.Go(func() {
			for range 200 {
				ask()
			}
		})
	}
	group.Wait()
}
