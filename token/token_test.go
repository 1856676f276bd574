package token

import (
	"math/big"
	"math/rand"
	"regexp"
	"slices"
	"strconv"
	"strings"
	"sync"
	"testing"
	"unsafe"

	"lifeline/api"
)

// The signatures of the chapter, to the letter.
var (
	_ func(string) ([]Token, error) = Cut
	_ func(string) (string, bool)   = Quote

	_ = int(End)
	_ = Token{Kind: Kind(0), Text: string(""), Value: int(0), At: int(0)}
)

// One token each, with where it begins.
func w(at int, text string) Token        { return Token{Word, text, 0, at} }
func n(at int, text string, v int) Token { return Token{Number, text, v, at} }
func q(at int, text string) Token        { return Token{String, text, 0, at} }
func g(at int, text string) Token        { return Token{Sign, text, 0, at} }
func e(at int) Token                     { return Token{End, "", 0, at} }

// cut expects these tokens of a text.
func cut(t *testing.T, s string, want ...Token) {
	t.Helper()
	if got, err := Cut(s); err != nil || !slices.Equal(got, want) {
		t.Errorf("%.200q: %v, %v, not %v", s, got, err, want)
	}
}

// fails expects no tokens, and an error at a place.
func fails(t *testing.T, s string, no api.Errno, at int) {
	t.Helper()
	if got, err := Cut(s); len(got) != 0 || err != api.Wrap(no, at) {
		t.Errorf("%.200q: %v, %v, not %v", s, got, err, api.Wrap(no, at))
	}
}

// P15.1: the kinds are what the chapter lists, in its order.
func TestKinds(t *testing.T) {
	if End != 0 || Word != 1 || Number != 2 || String != 3 || Sign != 4 {
		t.Error(End, Word, Number, String, Sign)
	}
}

// P15.1: the example of the chapter.
func TestExample(t *testing.T) {
	cut(t, "at 0x1f;", w(0, "at"), n(3, "0x1f", 31), g(7, ";"), e(8))
}

// P15.1: texts without tokens have an End at their length.
func TestNothing(t *testing.T) {
	for _, s := range []string{"", " ", "\t", "\n", "  \t\n\n \t", "#", "##", "#\n", "# a \"b\n", "#\n#", "#a\n#b\n", " #a", "\t#\x00\r\xff\"\\\n ", "#0x", "# \u00e4", strings.Repeat(" ", 4096), "#" + strings.Repeat("A", 4095), strings.Repeat("#\n", 2048)} {
		cut(t, s, e(len(s)))
	}
}

// P15.1: Words.
func TestWords(t *testing.T) {
	for _, s := range []string{"a", "z", "m", "image", "abcdefghijklmnopqrstuvwxyz", "a0123456789", "a-", "a--", "z-9-z", "a-1", "x0", "f00", "n", "r", "a0x1f", "a" + strings.Repeat("b-9", 1365)} {
		cut(t, s, w(0, s), e(len(s)))
		if len(s) < 4000 {
			cut(t, " "+s+"\n", w(1, s), e(len(s)+2))
			cut(t, s+"#"+s, w(0, s), e(2*len(s)+1))
		}
	}
	cut(t, "a b", w(0, "a"), w(2, "b"), e(3))
	cut(t, "a\tb\nc", w(0, "a"), w(2, "b"), w(4, "c"), e(5))
	cut(t, "a:b", w(0, "a"), g(1, ":"), w(2, "b"), e(3))
	cut(t, "a\"b\"c", w(0, "a"), q(1, "b"), w(4, "c"), e(5))
	cut(t, "a#b\nc", w(0, "a"), w(4, "c"), e(5))
	for s, at := range map[string]int{
		"A": 0, "Z": 0, "-": 0, "-a": 0, "aB": 1, "a_b": 1, "a.b": 1, "ab@": 2, "a\rb": 1, "a b C": 4, "\u00e4": 0, "a\u00e4": 1, "a\u0430": 1, "\uff41": 0, "\u212a": 0, "\u0161": 0, "a\u0131": 1, "a\x00": 1, "a\x80": 1, "a\xff": 1, "`": 0, "a`": 1, "a{b}|": 4, "a/": 1,
	} {
		fails(t, s, api.ErrLex, at)
	}
}

// P15.1: Numbers, in both bases, at the edges of 8, 16, 31 and 32 bits.
func TestNumbers(t *testing.T) {
	for _, v := range []int{0, 1, 2, 7, 8, 9, 10, 11, 15, 16, 17, 99, 100, 127, 128, 255, 256, 1000, 4096, 32767, 32768, 65535, 65536, 1<<31 - 1, 1 << 31, 1<<31 + 1, 4294967290, 4294967294, 4294967295} {
		for _, s := range []string{strconv.Itoa(v), "0x" + strconv.FormatInt(int64(v), 16)} {
			cut(t, s, n(0, s, v), e(len(s)))
			cut(t, "\n"+s+" ", n(1, s, v), e(len(s)+2))
			cut(t, s+";", n(0, s, v), g(len(s), ";"), e(len(s)+1))
		}
	}
	cut(t, "1234567890", n(0, "1234567890", 1234567890), e(10))
	cut(t, "0x12345678", n(0, "0x12345678", 0x12345678), e(10))
	cut(t, "0x9abcdef0", n(0, "0x9abcdef0", 0x9abcdef0), e(10))
	cut(t, "0xe1", n(0, "0xe1", 225), e(4))
	cut(t, "10 0x10", n(0, "10", 10), n(3, "0x10", 16), e(7))
	cut(t, "1\"a\"2", n(0, "1", 1), q(1, "a"), n(4, "2", 2), e(5))
	cut(t, "0:0x0,0", n(0, "0", 0), g(1, ":"), n(2, "0x0", 0), g(5, ","), n(6, "0", 0), e(7))
	cut(t, "1#2\n3", n(0, "1", 1), n(4, "3", 3), e(5))
	cut(t, "0#", n(0, "0", 0), e(2))
}

// P15.1: what begins as a Number, and is none: the error is where it begins.
func TestNoNumbers(t *testing.T) {
	for _, s := range []string{
		"0x", "0x ", "0x;", "0x:1", "0x\n1", "0xg", "0xz", "0x-1", "0xA", "0xx1", "0x0x1", // no digits
		"00", "01", "007", "00000", "0x00", "0x01", "0x0f", "0x0000000000001", "04294967295", // leading zeros
		"1a", "1z", "0a", "0f", "0z", "1x", "10x1", "00x1", "1e5", "9m", "0b1", "0o7", "12ab", "0x1g", "0x1z", "0xfg", "0x0x", "0xffx", "1abc;", "0x1g:", "1a A", "0xfs", // a letter behind it
		"4294967296", "4294967297", "4294967300", "9999999999", "10000000000", "42949672960", "0x100000000", "0x100000001", "0xfffffffff", "0x1000000000", // too great
		"9223372036854775807", "9223372036854775808", "18446744073709551615", "18446744073709551616", "18446744073709551617", "0x7fffffffffffffff", "0xffffffffffffffff", "0x10000000000000000", "0x10000000000000001", "36893488147419103233", "340282366920938463463374607431768211457",
		strings.Repeat("1", 4000), strings.Repeat("9", 4000), "0x" + strings.Repeat("f", 4000), "0x1" + strings.Repeat("0", 4000), strings.Repeat("0", 4000), "1" + strings.Repeat("0", 64), "0x1" + strings.Repeat("0", 64),
	} {
		fails(t, s, api.ErrLex, 0)
		fails(t, "a;\n"+s, api.ErrLex, 3)
		fails(t, "# 1\n  "+s+" A", api.ErrLex, 6)
	}
	// The Number is as required, but what stands behind it begins no token.
	for s, at := range map[string]int{"1A": 1, "1-": 1, "1-2": 1, "1.5": 1, "1_000": 1, "0X1": 1, "0x1A": 3, "0xfF": 3, "0x1_0": 3, "0x1.": 3, "1+1": 1, "12 345 =": 7, "1\r": 1, "1\x00": 1, "0\x80": 1, "1\u0661": 1, "0x1\u00e9": 3} {
		fails(t, s, api.ErrLex, at)
	}
	for s, at := range map[string]int{"+1": 0, "-1": 0, ".5": 0, "$1": 0, "\u0661": 0, "\u00b2": 0, "\uff11": 0} {
		fails(t, s, api.ErrLex, at)
	}
}

// P15.1: Strings.
func TestStrings(t *testing.T) {
	for _, c := range []struct{ s, text string }{
		{`""`, ""},
		{`"a"`, "a"},
		{`" "`, " "},
		{`"  "`, "  "},
		{`"~"`, "~"},
		{`"!"`, "!"},
		{`"login: "`, "login: "},
		{`"#"`, "#"},
		{`"a # b"`, "a # b"},
		{`":;,{}"`, ":;,{}"},
		{`"0x"`, "0x"},
		{`"ABC_'"`, "ABC_'"},
		{`"\""`, `"`},
		{`"\"\""`, `""`},
		{`"a\"b"`, `a"b`},
		{`"\\"`, `\`},
		{`"\\\\"`, `\\`},
		{`"\\n"`, `\n`},
		{`"\\r"`, `\r`},
		{`"\\\""`, `\"`},
		{`"\\\n"`, "\\\n"},
		{`"\r"`, "\r"},
		{`"\n"`, "\n"},
		{`"\r\n"`, "\r\n"},
		{`"\n\r"`, "\n\r"},
		{`"nr\nr\rn"`, "nr\nr\rn"},
		{`"a\r\nb\\c\"d"`, "a\r\nb\\c\"d"},
		{`"` + strings.Repeat("x", 4094) + `"`, strings.Repeat("x", 4094)},
		{`"` + strings.Repeat(`\"`, 2047) + `"`, strings.Repeat(`"`, 2047)},
	} {
		cut(t, c.s, q(0, c.text), e(len(c.s)))
		if len(c.s) < 4000 {
			cut(t, "\t"+c.s+c.s, q(1, c.text), q(1+len(c.s), c.text), e(1+2*len(c.s)))
			cut(t, c.s+"a", q(0, c.text), w(len(c.s), "a"), e(len(c.s)+1))
			cut(t, c.s+"0", q(0, c.text), n(len(c.s), "0", 0), e(len(c.s)+1))
			cut(t, c.s+"#\"", q(0, c.text), e(len(c.s)+2))
		}
	}
}

// P15.1: what begins as a String, and is none: the error is at its first quote.
func TestNoStrings(t *testing.T) {
	for _, s := range []string{
		`"`, `"a`, `"a b`, `"\"`, `"\\\"`, `"\`, `"\\`, `"a\`, `"\n`, `"# `, // without an end
		"\"\n\"", "\"a\nb\"", "\"a\n", "\"\r\"", "\"\t\"", "\"\x00\"", "\"\x1f\"", "\"\x7f\"", "\"\x80\"", "\"\xff\"", "\"\u00e4\"", "\"a\u20ac\"", "\"\u0141\"", "\"\\\\\x7f\"", // bytes that are not from the space to the tilde
		`"\x"`, `"\a"`, `"\0"`, `"\t"`, `"\ "`, `"\'"`, `"\N"`, `"\R"`, `"\~"`, `"\/"`, `"\x41"`, `"\u0041"`, "\"\\\n\"", "\"\\\r\"", "\"\\\x00\"", "\"\\\xff\"", `"a\qb"`, `"\\\q"`, `"\q`, // a backslash that denotes nothing
	} {
		fails(t, s, api.ErrLex, 0)
		fails(t, "a;\n"+s, api.ErrLex, 3)
		fails(t, `"b"`+s, api.ErrLex, 3)
	}
	fails(t, `"a""`, api.ErrLex, 3)
	fails(t, `"a" "b`, api.ErrLex, 4)
	fails(t, `"a"'b'`, api.ErrLex, 3)
	fails(t, `"`+strings.Repeat("x", 4095), api.ErrLex, 0)
	fails(t, `"`+strings.Repeat(`\\`, 2047)+`\`, api.ErrLex, 0)
}

// P15.1: Signs are tokens of one byte.
func TestSigns(t *testing.T) {
	cut(t, ":;,{}", g(0, ":"), g(1, ";"), g(2, ","), g(3, "{"), g(4, "}"), e(5))
	cut(t, "::", g(0, ":"), g(1, ":"), e(2))
	cut(t, "}{ ;\n;", g(0, "}"), g(1, "{"), g(3, ";"), g(5, ";"), e(6))
	cut(t, ",#,\n,", g(0, ","), g(4, ","), e(5))
	for _, s := range []string{"(", ")", "[", "]", "<", ">", "=", "+", "*", "/", "!", "?", ".", "'", "|", "&", "%", "$", "@", "^", "_", "~", "\\", "`", "-"} {
		fails(t, s, api.ErrLex, 0)
		fails(t, ";"+s, api.ErrLex, 1)
	}
}

// P15.1: comments extend to the next line feed, whatever is in them, and the line feed is none of their bytes.
func TestComments(t *testing.T) {
	cut(t, "a # b\nc", w(0, "a"), w(6, "c"), e(7))
	cut(t, "# a\nb # c", w(4, "b"), e(9))
	cut(t, "#a#b\nc", w(5, "c"), e(6))
	cut(t, "#\"\nc", w(3, "c"), e(4))
	cut(t, "#\\\nc", w(3, "c"), e(4))
	cut(t, "#\r\nc", w(3, "c"), e(4))
	cut(t, "#\n\n#\nc", w(5, "c"), e(6))
	cut(t, "a#", w(0, "a"), e(2))
	for c := range 256 {
		s := "a#" + string([]byte{byte(c)}) + "b"
		if c == '\n' {
			cut(t, s, w(0, "a"), w(3, "b"), e(4))
		} else {
			cut(t, s, w(0, "a"), e(4))
			cut(t, s+"\nc", w(0, "a"), w(5, "c"), e(6))
		}
	}
	fails(t, "#\n=", api.ErrLex, 2)
	fails(t, "\"#\n\"", api.ErrLex, 0)
}

// P15.1: the limit of the bytes comes first, whatever they are.
func TestLimit(t *testing.T) {
	for _, s := range []string{strings.Repeat(" ", 4095), strings.Repeat("#", 4095), strings.Repeat("\n", 4095)} {
		cut(t, s+" ", e(4096))
		fails(t, s+"  ", api.ErrLimit, 0)
	}
	cut(t, strings.Repeat(" ", 4095)+";", g(4095, ";"), e(4096))
	fails(t, strings.Repeat(" ", 4095)+"=", api.ErrLex, 4095)
	fails(t, strings.Repeat(" ", 4095)+"\"", api.ErrLex, 4095)
	fails(t, strings.Repeat(" ", 4094)+"0x", api.ErrLex, 4094)
	for _, s := range []string{"a", ";", "\x00", "\"", "=", "0", "\u00e4"} {
		fails(t, strings.Repeat(s, 4097), api.ErrLimit, 0)
		fails(t, s+strings.Repeat(" ", 4096), api.ErrLimit, 0)
	}
	fails(t, strings.Repeat(" ", 1<<20), api.ErrLimit, 0)
	all, err := Cut(strings.Repeat(";", 4096))
	if err != nil || len(all) != 4097 {
		t.Fatal(len(all), err)
	}
	for at, got := range all[:4096] {
		if got != g(at, ";") {
			t.Fatal(at, got)
		}
	}
	if all[4096] != e(4096) {
		t.Error(all[4096])
	}
	s := strings.Repeat("z-9 0x8\"\\n\" ", 341)
	if all, err := Cut(s); err != nil || len(all) != 3*341+1 || all[3*340] != w(12*340, "z-9") || all[3*340+2] != q(12*340+7, "\n") {
		t.Error(len(all), err)
	}
}

// P15.1: of several wrong tokens the first one is told.
func TestFirst(t *testing.T) {
	fails(t, "= 01 \"", api.ErrLex, 0)
	fails(t, "01 = \"", api.ErrLex, 0)
	fails(t, "a 01 =", api.ErrLex, 2)
	fails(t, "a \"\\x\" =", api.ErrLex, 2)
	fails(t, "a:1 0x =", api.ErrLex, 4)
	fails(t, "a # = 01\n0x1 A", api.ErrLex, 13)
}

// P15.1: each byte alone, behind a token of each kind, between quotes, and behind a backslash.
func TestEveryByte(t *testing.T) {
	for c := range 256 {
		b := string([]byte{byte(c)})
		for _, s := range []string{b, "a" + b, "1" + b, "0x" + b, "0x1" + b, "\"\"" + b, ";" + b, " " + b, "#\n" + b, "\"" + b, "\"" + b + "\"", "\"\\" + b, "\"\\" + b + "\"", "0" + b + "1", "a" + b + "a"} {
			agree(t, s)
		}
	}
}

// The chapter in expressions: what is skipped, and what a token of each kind looks like.
var (
	skipped = regexp.MustCompile(`^([ \t\n]|#[^\n]*)+`)
	words   = regexp.MustCompile(`^[a-z][a-z0-9-]*`)
	digits  = regexp.MustCompile(`^(0x[0-9a-f]*|[0-9]+)`)
	numbers = regexp.MustCompile(`^(0|[1-9][0-9]*|0x(0|[1-9a-f][0-9a-f]*))$`)
	quoted  = regexp.MustCompile(`^"([ !#-\[\]-~]|\\["\\rn])*"`)
	single  = regexp.MustCompile(`^[:;,{}]`)
	denote  = strings.NewReplacer(`\"`, `"`, `\\`, `\`, `\r`, "\r", `\n`, "\n")
)

// read is the tokens of a text by these expressions; if it has none, the index of the first wrong one, else -1.
func read(s string) ([]Token, int) {
	var all []Token
	at := 0
	for {
		at += len(skipped.FindString(s[at:]))
		rest := s[at:]
		if rest == "" {
			return append(all, Token{At: at}), -1
		}
		if m := words.FindString(rest); m != "" {
			all = append(all, w(at, m))
			at += len(m)
		} else if m := digits.FindString(rest); m != "" {
			v, ok := new(big.Int).SetString(m, 0)
			if !numbers.MatchString(m) || !ok || v.BitLen() > 32 || words.MatchString(rest[len(m):]) {
				return nil, at
			}
			all = append(all, n(at, m, int(v.Uint64())))
			at += len(m)
		} else if m := quoted.FindString(rest); m != "" {
			all = append(all, q(at, denote.Replace(m[1:len(m)-1])))
			at += len(m)
		} else if m := single.FindString(rest); m != "" {
			all = append(all, g(at, m))
			at += len(m)
		} else {
			return nil, at
		}
	}
}

// agree holds Cut against the expressions.
func agree(t *testing.T, s string) {
	t.Helper()
	want, at := read(s)
	got, err := Cut(s)
	if at >= 0 && (len(got) != 0 || err != api.Wrap(api.ErrLex, at)) || at < 0 && (err != nil || !slices.Equal(got, want)) {
		t.Fatalf("%q: %v, %v, not %v, %d", s, got, err, want, at)
	}
}

// P15.1: every text of up to so many of some pieces.
func TestSmall(t *testing.T) {
	for _, c := range []struct {
		most   int
		pieces []string
	}{
		{3, []string{"a", "f", "g", "z", "0", "1", "9", "x", "n", "r", "-", "\"", "\\", "#", "\n", " ", "\t", ":", ";", ",", "{", "}", "\r", "A", "=", "~", "\x7f", "\x00", "\xff"}},
		{6, []string{"0", "1", "f", "x", "g", " ", "A"}},
		{6, []string{"\"", "\\", "n", " ", "\n", "#"}},
		{6, []string{"a", "-", "0", "\"", "#", "\n"}},
		{5, []string{"4294967295", "4294967296", "0xffffffff", "0", "x", " ", "1"}},
	} {
		rows := []string{""}
		for range c.most {
			var longer []string
			for _, s := range rows {
				for _, p := range c.pieces {
					agree(t, s+p)
					longer = append(longer, s+p)
				}
			}
			rows = longer
		}
	}
}

// P15.1: long texts by chance: pieces that are as required, of which some are altered in a byte.
func TestChance(t *testing.T) {
	r := rand.New(rand.NewSource(15))
	pieces := []string{"image", "a-1", "z", "0", "17", "4294967295", "0x0", "0x1f", "0xffffffff", `""`, `"a b"`, `"\r\n\\\""`, `"#"`, ":", ";", ",", "{", "}", " ", " ", " ", "\n", "\t", "# x \" y\n", "#\n"}
	for range 20000 {
		var s []byte
		for range 1 + r.Intn(30) {
			s = append(s, pieces[r.Intn(len(pieces))]...)
			if r.Intn(2) == 0 {
				s = append(s, ' ')
			}
		}
		agree(t, string(s))
		s[r.Intn(len(s))] = byte(r.Intn(256))
		agree(t, string(s))
		s[r.Intn(len(s))] = "\"\\# \n0x"[r.Intn(7)]
		agree(t, string(s))
	}
}

// P15.1: the Text of a token that is no String is what stands in the text where it is, and nothing but a Number has a Value.
func TestPlaces(t *testing.T) {
	s := "play: { send \"a\\r\"; 12,0x1f } # end\nend"
	all, err := Cut(s)
	if err != nil || len(all) != 12 {
		t.Fatal(all, err)
	}
	for _, x := range all {
		if x.Kind == String {
			if x != q(13, "a\r") {
				t.Error(x)
			}
		} else if s[x.At:x.At+len(x.Text)] != x.Text || x.Kind != Number && x.Value != 0 {
			t.Error(x)
		}
	}
}

// P15.2: texts worked out by hand.
func TestQuote(t *testing.T) {
	for _, c := range []struct{ s, want string }{
		{"", `""`},
		{"a", `"a"`},
		{" ", `" "`},
		{"~", `"~"`},
		{"=> ", `"=> "`},
		{`"`, `"\""`},
		{`\`, `"\\"`},
		{"\r", `"\r"`},
		{"\n", `"\n"`},
		{"\r\n", `"\r\n"`},
		{`\n`, `"\\n"`},
		{`\"`, `"\\\""`},
		{`""`, `"\"\""`},
		{"nr#:;,{}'", `"nr#:;,{}'"`},
		{"a\r\"\\", `"a\r\"\\"`},
		{"a\nb\\c\"d\re", `"a\nb\\c\"d\re"`},
		{strings.Repeat("x", 5000), `"` + strings.Repeat("x", 5000) + `"`},
		{strings.Repeat("\"", 5000), `"` + strings.Repeat(`\"`, 5000) + `"`},
	} {
		if got, ok := Quote(c.s); got != c.want || !ok {
			t.Errorf("%.200q: %.200q, %v, not %.200q", c.s, got, ok, c.want)
		}
	}
}

// P15.2: each byte: a String can denote it or not; those that it can stand for themselves, except for four.
func TestQuoteBytes(t *testing.T) {
	for c := range 256 {
		b := string([]byte{byte(c)})
		want := b
		switch b {
		case `"`:
			want = `\"`
		case `\`:
			want = `\\`
		case "\r":
			want = `\r`
		case "\n":
			want = `\n`
		default:
			if c < 0x20 || c > 0x7e {
				want = ""
			}
		}
		for _, around := range [][2]string{{"", ""}, {"a", ""}, {"", "a"}, {"ab", "cd"}, {"~ ", " ~"}} {
			s, all := around[0]+b+around[1], `"`+around[0]+want+around[1]+`"`
			if want == "" {
				all = ""
			}
			if got, ok := Quote(s); got != all || ok != (want != "") {
				t.Errorf("%q: %q, %v, not %q", s, got, ok, all)
			}
		}
	}
	for _, s := range []string{"\u00e4", "a\u20ac", "\u0085", "\u00a0", "\ufffd", "\u0122", "\u0141", "a\u015c", "\u010a", "\U00010041", "\x00\x00", "ab\x7f", "\t", "a\tb", "\"\t", "\\\x1b", strings.Repeat("x", 5000) + "\x00", "\x80" + strings.Repeat("x", 5000)} {
		if got, ok := Quote(s); got != "" || ok {
			t.Errorf("%.200q: %q, %v", s, got, ok)
		}
	}
}

// P15.2: the String that Quote returns is one token whose Text is the text, and without any one of its backslashes it is not.
func back(t *testing.T, s string) {
	t.Helper()
	got, ok := Quote(s)
	if !ok {
		t.Fatalf("%q: no", s)
	}
	cut(t, got, q(0, s), e(len(got)))
	for i := range got {
		if got[i] == '\\' {
			less := got[:i] + got[i+1:]
			if all, err := Cut(less); err == nil && slices.Equal(all, []Token{q(0, s), e(len(less))}) {
				t.Fatalf("%q: %q has a backslash too many", s, got)
			}
		}
	}
}

func TestBack(t *testing.T) {
	parts := []string{"", "a", "n", "r", "\"", "\\", "\r", "\n", " ", "~", "#"}
	for _, a := range parts {
		for _, b := range parts {
			for _, c := range parts {
				for _, d := range parts {
					back(t, a+b+c+d)
				}
			}
		}
	}
	r := rand.New(rand.NewSource(152))
	const bytes = " !\"#az09[\\]{}~\r\n"
	for range 2000 {
		s := make([]byte, r.Intn(60))
		for i := range s {
			s[i] = bytes[r.Intn(len(bytes))]
			if r.Intn(2) == 0 {
				s[i] = byte(' ' + r.Intn('~'-' '+1))
			}
		}
		back(t, string(s))
	}
}

// within tells whether a text lies in the memory of another one.
func within(part, whole string) bool {
	p, b := uintptr(unsafe.Pointer(unsafe.StringData(part))), uintptr(unsafe.Pointer(unsafe.StringData(whole)))
	return len(part) > 0 && p >= b && p < b+uintptr(len(whole))
}

// W6: no token lies in the text that it was cut from, and no two answers share memory.
func TestMemory(t *testing.T) {
	given := []byte("image \"boot\" at 0x1000 size 30, print { 0x0 } by crc;")
	s := string(given)
	want, _ := read(s)
	a, _ := Cut(s)
	for _, x := range a {
		if within(x.Text, s) {
			t.Errorf("%v lies in the text", x)
		}
	}
	b, _ := Cut(s)
	for i := range a[:cap(a)] {
		a[:cap(a)][i] = w(99, "spoilt")
	}
	c, _ := Cut(s)
	if !slices.Equal(b, want) || !slices.Equal(c, want) || s != string(given) {
		t.Error(b, c, s)
	}
	for _, s := range []string{"boot", "a\"b", ""} {
		if got, _ := Quote(s); within(s, got) || within(got, s) {
			t.Errorf("%q lies in the text", got)
		}
	}
}

// W2: what was cut and quoted before, or is at the same time, does not matter.
func TestApart(t *testing.T) {
	const s = "a-1 0x1f \"q\\n\"; # x"
	want := []Token{w(0, "a-1"), n(4, "0x1f", 31), q(9, "q\n"), g(14, ";"), e(19)}
	cut(t, s, want...)
	fails(t, "\"q", api.ErrLex, 0)
	cut(t, s, want...)
	fails(t, strings.Repeat(";", 5000), api.ErrLimit, 0)
	cut(t, s, want...)
	Quote("\x00")
	var group sync.WaitGroup
	for range 8 {
		group.Go(func() {
			for range 200 {
				got, err := Cut(s)
				text, ok := Quote("q\n")
				if err != nil || !slices.Equal(got, want) || text != `"q\n"` || !ok {
					t.Error(got, err, text, ok)
				}
			}
		})
	}
	group.Wait()
}
