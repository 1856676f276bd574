package regex

import (
	"math/rand"
	"reflect"
	"strings"
	"testing"

	"lifeline/api"
)

// The signatures of the chapter, to the letter.
var (
	_ func(string) (Node, error) = Parse
	_ func(string) string        = Quote
	_ func(Set, byte) bool       = Set.Has
	_ func(Set, byte) Set        = Set.With
	_ func(Set) Set              = Set.Not
	_ [4]uint64                  = Set{}
	_                            = Node{Kind: Kind(0), Set: Set{}, Kids: []Node{}}
)

// P6.2: the Kinds are numbered as the chapter lists them.
func TestKinds(t *testing.T) {
	if list := []Kind{Nothing, One, Then, Either, Star}; !reflect.DeepEqual(list, []Kind{0, 1, 2, 3, 4}) {
		t.Error(list)
	}
}

// of is a Set with these bytes, bit by bit.
func of(list string) Set {
	var s Set
	for _, c := range []byte(list) {
		s[c>>6] |= uint64(1) << (c & 63)
	}
	return s
}

// but is a Set with all bytes except these.
func but(list string) Set {
	var s Set
	for c := range 256 {
		if strings.IndexByte(list, byte(c)) < 0 {
			s[c>>6] |= uint64(1) << (c & 63)
		}
	}
	return s
}

// The nodes of which the tests write down trees.

func in(list string) Node   { return Node{Kind: One, Set: of(list)} }
func out(list string) Node  { return Node{Kind: One, Set: but(list)} }
func then(a, b Node) Node   { return Node{Kind: Then, Kids: []Node{a, b}} }
func either(a, b Node) Node { return Node{Kind: Either, Kids: []Node{a, b}} }
func many(a Node) Node      { return Node{Kind: Star, Kids: []Node{a}} }
func nothing() Node         { return Node{} }
func same(a, b Node) bool   { return reflect.DeepEqual(tidy(a), tidy(b)) }
func row(list string) Node  { return rowOf([]byte(list)) }

// rowOf is one byte behind the other.
func rowOf(list []byte) (n Node) {
	for i, c := range list {
		if i == 0 {
			n = in(string([]byte{c}))
		} else {
			n = then(n, in(string([]byte{c})))
		}
	}
	return n
}

// tidy is a node of which lists without elements are nil (W7).
func tidy(n Node) Node {
	t := Node{Kind: n.Kind, Set: n.Set}
	for _, kid := range n.Kids {
		t.Kids = append(t.Kids, tidy(kid))
	}
	return t
}

// P6.1: known sets, element by element.
func TestKnownSets(t *testing.T) {
	for c, want := range map[byte]Set{
		0: {1, 0, 0, 0}, 1: {2, 0, 0, 0}, 63: {1 << 63, 0, 0, 0},
		64: {0, 1, 0, 0}, 'a': {0, 1 << 33, 0, 0}, 127: {0, 1 << 63, 0, 0},
		128: {0, 0, 1, 0}, 191: {0, 0, 1 << 63, 0},
		192: {0, 0, 0, 1}, 255: {0, 0, 0, 1 << 63},
	} {
		if got := (Set{}).With(c); got != want {
			t.Errorf("Set{}.With(%d) = %x, want %x", c, got, want)
		}
	}
	const ones = 1<<64 - 1
	if got := (Set{}).Not(); got != (Set{ones, ones, ones, ones}) {
		t.Errorf("Set{}.Not() = %x", got)
	}
	if got := (Set{1, 2, 4, 1 << 63}).Not(); got != (Set{ones - 1, ones - 2, ones - 4, ones >> 1}) {
		t.Errorf("Not = %x", got)
	}
}

// P6.1: Has, With and Not of sets of all kinds against an array of 256 truths.
func TestSets(t *testing.T) {
	r := rand.New(rand.NewSource(61))
	sets := []Set{{}, {1<<64 - 1, 1<<64 - 1, 1<<64 - 1, 1<<64 - 1}, {1<<64 - 1}, {0, 0, 0, 1<<64 - 1}}
	for range 20 {
		sets = append(sets, Set{r.Uint64(), r.Uint64(), r.Uint64(), r.Uint64()})
	}
	for _, s := range sets {
		was, not := s, s.Not()
		for c := range 256 {
			has := s[c/64]&(1<<(c%64)) != 0
			if s.Has(byte(c)) != has || not.Has(byte(c)) == has {
				t.Fatalf("%x: Has(%d) = %v, Not().Has = %v, want %v and its contrary", s, c, s.Has(byte(c)), not.Has(byte(c)), has)
			}
			more := s.With(byte(c))
			for d := range 256 {
				if want := d == c || s[d/64]&(1<<(d%64)) != 0; more.Has(byte(d)) != want {
					t.Fatalf("%x.With(%d).Has(%d) = %v", s, c, d, !want)
				}
			}
		}
		if s != was || not.Not() != s {
			t.Fatalf("%x was altered, or Not of its Not is %x", was, not.Not())
		}
	}
}

// P6.2: trees worked out by hand.
func TestKnownTrees(t *testing.T) {
	a, b, c := in("a"), in("b"), in("c")
	for s, want := range map[string]Node{
		"": nothing(), "a": a, "ab": then(a, b), "abc": then(then(a, b), c), "a(bc)": then(a, then(b, c)),
		"|": either(nothing(), nothing()), "a|": either(a, nothing()), "|a": either(nothing(), a),
		"a|b|c": either(either(a, b), c), "a|(b|c)": either(a, either(b, c)), "ab|c": either(then(a, b), c), "a|bc": either(a, then(b, c)),
		"||": either(either(nothing(), nothing()), nothing()),
		"a*": many(a), "a+": then(a, many(a)), "a?": either(a, nothing()),
		"ab*": then(a, many(b)), "a*b": then(many(a), b), "(ab)*": many(then(a, b)), "a|b*": either(a, many(b)),
		"ab+c": then(then(a, then(b, many(b))), c), "ab?": then(a, either(b, nothing())), "(a|b)?": either(either(a, b), nothing()),
		"(a+)+": then(then(a, many(a)), many(then(a, many(a)))),
		"(a*)*": many(many(a)), "()": nothing(), "()*": many(nothing()), "()+": then(nothing(), many(nothing())), "()a": then(nothing(), a), "a()": then(a, nothing()),
		"(())": nothing(), "(a)": a, "((((((a))))))": a, "(((((())))))": nothing(), "(a)(b)": then(a, b), "(|)": either(nothing(), nothing()),
		"((((((a))))))((((((b))))))": then(a, b),
		".":                          out(""), ".*": many(out("")), "a.": then(a, out("")),
		`\a`: a, `\(`: in("("), `\)`: in(")"), `\[`: in("["), `\]`: in("]"), `\*`: in("*"), `\+`: in("+"), `\?`: in("?"), `\|`: in("|"), `\\`: in(`\`), `\.`: in("."),
		`\n`: in("n"), `\0`: in("0"), "\\\x00": in("\x00"), "\\\xff": in("\xff"), `\**`: many(in("*")), `\\*`: many(in(`\`)), `\|a`: then(in("|"), a), `\\|a`: either(in(`\`), a),
		"\n": in("\n"), "\x00": in("\x00"), "\xff": in("\xff"), "^": in("^"), "$": in("$"), "-": in("-"), "{": in("{"), "a{2}": row("a{2}"), "^a$": row("^a$"), "a-b": row("a-b"), "=> ": row("=> "),
		"\u00e9": row("\xc3\xa9"), "\u00e9*": then(in("\xc3"), many(in("\xa9"))),
		"[a]": a, "[abc]": in("abc"), "[cba]": in("abc"), "[aa]": a, "[a]b": then(a, b), "[a][b]": then(a, b), "[a]*": many(a), "[ab]+": then(in("ab"), many(in("ab"))), "[a]?": either(a, nothing()), "[a]|b": either(a, b), "([a])": a,
		"[]": in(""), "[]a": then(in(""), a), "[^]": out(""), "[^a]": out("a"), "[^ab]": out("ab"), "[^^]": out("^"), "[a^]": in("a^"), `[\^a]`: in("^a"), `[^\^]`: out("^"), `[\^]`: in("^"),
		"[a-c]": in("abc"), "[a-a]": a, "[^a-c]": out("abc"), "[a-cx]": in("abcx"), "[xa-c]": in("abcx"), "[a-cA-C]": in("abcABC"), "[a-c0-2_]": in("abc012_"),
		"[-]": in("-"), "[a-]": in("a-"), "[-a]": in("-a"), "[^-]": out("-"), "[^-a]": out("-a"), "[^a-]": out("a-"), "[a-c-]": in("abc-"), "[a-c-e]": in("abc-e"), "[--]": in("-"), "[---]": in("-"), "[--/]": in("-./"), "[+--]": in("+,-"), "[----]": in("-"),
		`[a\-c]`: in("a-c"), `[\--/]`: in("-./"), `[\a-\c]`: in("abc"), `[a-\c]`: in("abc"), `[\a-c]`: in("abc"), `[\-]`: in("-"), `[\]]`: in("]"), `[\]-_]`: in("]^_"), `[[-\]]`: in(`[\]`), `[\\]`: in(`\`), `[\\-\]]`: in(`\]`), `[a\]` + "]": in("a]"),
		"[[]": in("["), "[(]": in("("), "[)|*+?.(]": in(")|*+?.("), "[.]": in("."), "[.]*": many(in(".")), "[^.]": out("."), "[\x00-\xff]": out(""), "[^\x00-\xff]": in(""), "[\xfe-\xff]": in("\xfe\xff"), "[\xff]": in("\xff"), "[\x00]": in("\x00"), "[ -~]": in(ascii()),
	} {
		if got, err := Parse(s); err != nil || !same(got, want) {
			t.Errorf("Parse(%q) = %v, %v, want %v", s, got, err, want)
		}
	}
}

// ascii is every byte from the blank to the tilde.
func ascii() string {
	var list []byte
	for c := byte(' '); c <= '~'; c++ {
		list = append(list, c)
	}
	return string(list)
}

// P6.2, P6.3: every byte alone, behind a backslash, and in classes.
func TestEachByte(t *testing.T) {
	for i := range 256 {
		c := string([]byte{byte(i)})
		alone, at := in(c), -1
		switch c {
		case "(", "\\":
			alone, at = nothing(), map[string]int{"(": 1, "\\": 0}[c]
		case "[", "]", ")", "*", "+", "?":
			alone, at = nothing(), 0
		case "|":
			alone = either(nothing(), nothing())
		case ".":
			alone = out("")
		}
		check(t, c, alone, at)
		check(t, "\\"+c, in(c), -1)
		check(t, "x\\"+c, then(in("x"), in(c)), -1)
		check(t, "[\\"+c+"]", in(c), -1)
		check(t, "[^\\"+c+"]", out(c), -1)
		switch c {
		case "]":
			check(t, "["+c+"]", nothing(), 2)
		case "\\":
			check(t, "["+c+"]", nothing(), 0)
		case "^":
			check(t, "["+c+"]", out(""), -1)
		default:
			check(t, "["+c+"]", in(c), -1)
			check(t, "[^"+c+"]", out(c), -1)
		}
	}
}

// check compares what Parse answers with a tree, or, if a place is given, with ErrPattern there.
func check(t *testing.T, s string, want Node, at int) {
	t.Helper()
	got, err := Parse(s)
	if at < 0 && (err != nil || !same(got, want)) {
		t.Fatalf("Parse(%q) = %v, %v, want %v", s, got, err, want)
	}
	if at >= 0 && (err != error(api.Fault{No: api.ErrPattern, At: at}) || !reflect.DeepEqual(got, Node{})) {
		t.Fatalf("Parse(%q) = %v, %v, want an error at %d", s, got, err, at)
	}
}

// P6.2, P6.3: every range there is.
func TestEachRange(t *testing.T) {
	for a := range 256 {
		for b := range 256 {
			s := "x[\\" + string([]byte{byte(a)}) + "-\\" + string([]byte{byte(b)}) + "]"
			if a > b {
				check(t, s, nothing(), 1)
				continue
			}
			var set Set
			for c := a; c <= b; c++ {
				set[c>>6] |= uint64(1) << (c & 63)
			}
			check(t, s, then(in("x"), Node{Kind: One, Set: set}), -1)
		}
	}
}

// P6.3: places of errors, worked out by hand.
func TestKnownFaults(t *testing.T) {
	for s, at := range map[string]int{
		"*": 0, "+": 0, "?": 0, ")": 0, "]": 0, "[": 0, "(": 1, `\`: 0,
		"a**": 2, "a*+": 2, "a*?": 2, "a+*": 2, "a++": 2, "a+?": 2, "a?*": 2, "a??": 2, "ab**c": 3, "(*": 1, "(*a)": 1, "|*": 1, "a|*": 2, "a|+b": 2, "(a|?": 3, "()**": 3, "[a]**": 4, `\***`: 3, ".**": 2,
		"a)": 1, "())": 2, "(a))": 3, "a)*": 1, "a|)": 2, ")(": 0, "]a": 0, "a]": 1, "[a]]": 3, "(]": 1, "(a]": 2,
		"(a": 2, "((a)": 4, "(|": 2, "(a|b": 4, "((": 2, "((((((": 6, "(a*": 3, "a(": 2, "(()": 3, "(.": 2, `(\)`: 3, "([)]": 4,
		"(((((((": 6, "((((((()))))))": 6, "((((((a(": 7, "((((((a)(": 9, "a((((((()": 7, "()((((((()": 8, "(((((((*": 6, `(((((((\`: 6,
		`a\`: 1, `\\\`: 2, `(\`: 1, `a|\`: 2, `(a\`: 2, `a*\`: 2, `[a]\`: 3,
		"[a": 0, "x[a": 1, "[^": 0, "[^a": 0, "[a-": 0, "[a-c": 0, "[-": 0, "[]a[": 3, "x[b-a]": 1, "xy[b-a": 2, "[z-a]": 0, "[ab-ac]": 0, "[a--]": 0, "[^b-a]": 0, "[b-a]*)": 0, "([b-a])": 1, "[a-c][c-a]": 5, `[\b-\a]`: 0, `[a-\]]`: 0, "(a[": 2, "[[]]": 3, "[\xff-\x00]": 0,
		`[a\]`: 0, `[\]`: 0, `x[a\`: 1, `[a-\`: 0, `[^\`: 0, `[a-\]`: 0, `x[\`: 1,
	} {
		check(t, s, nothing(), at)
	}
}

// P6.3: up to 64 bytes are read, and 65 never are.
func TestLimit(t *testing.T) {
	for n := range 65 {
		check(t, strings.Repeat("a", n), row(strings.Repeat("a", n)), -1)
	}
	check(t, strings.Repeat("a", 63)+"*", then(row(strings.Repeat("a", 62)), many(in("a"))), -1)
	check(t, "["+strings.Repeat("a", 62)+"]", in("a"), -1)
	check(t, strings.Repeat("a", 63)+")", nothing(), 63)
	check(t, strings.Repeat("a", 63)+"\\", nothing(), 63)
	check(t, strings.Repeat("a", 63)+"(", nothing(), 64)
	check(t, strings.Repeat("a", 63)+"[", nothing(), 63)
	for _, s := range []string{strings.Repeat("a", 65), strings.Repeat("a", 66), strings.Repeat("*", 65), strings.Repeat("(", 65), strings.Repeat("(", 1<<20), strings.Repeat("a", 64) + "*", "[b-a]" + strings.Repeat("a", 60), strings.Repeat("\\", 65), strings.Repeat("\u00e9", 33), strings.Repeat("\x00", 128), strings.Repeat("a", 256), strings.Repeat("a", 1<<16)} {
		if n, err := Parse(s); err != error(api.Fault{No: api.ErrLimit, At: 64}) || !reflect.DeepEqual(n, Node{}) {
			t.Errorf("Parse of %d bytes = %v, %v", len(s), n, err)
		}
	}
}

// The reading of the tests: a part of a text is what the chapter calls it, if some way of dividing it is. There is at most one.

// alternation is the tree of s as an alternation in so many brackets.
func alternation(s string, deep int) (Node, bool) {
	if n, ok := sequence(s, deep); ok {
		return n, true
	}
	for k := len(s) - 1; k >= 0; k-- {
		if s[k] != '|' {
			continue
		}
		if last, ok := sequence(s[k+1:], deep); ok {
			if first, ok := alternation(s[:k], deep); ok {
				return either(first, last), true
			}
		}
	}
	return Node{}, false
}

// sequence is the tree of s as a sequence.
func sequence(s string, deep int) (Node, bool) {
	if s == "" {
		return nothing(), true
	}
	if n, ok := piece(s, deep); ok {
		return n, true
	}
	for k := 1; k < len(s); k++ {
		if last, ok := piece(s[k:], deep); ok {
			if first, ok := sequence(s[:k], deep); ok {
				return then(first, last), true
			}
		}
	}
	return Node{}, false
}

// piece is the tree of s as a piece.
func piece(s string, deep int) (Node, bool) {
	if n, ok := atom(s, deep); ok {
		return n, true
	}
	n, ok := atom(s[:len(s)-1], deep)
	if !ok {
		return Node{}, false
	}
	switch s[len(s)-1] {
	case '*':
		return many(n), true
	case '+':
		return then(n, many(n)), true
	case '?':
		return either(n, nothing()), true
	}
	return Node{}, false
}

// atom is the tree of s as an atom.
func atom(s string, deep int) (Node, bool) {
	switch {
	case s == "":
		return Node{}, false
	case s == ".":
		return out(""), true
	case len(s) == 1:
		return in(s), !strings.Contains(`()[]*+?|\`, s)
	case len(s) == 2 && s[0] == '\\':
		return in(s[1:]), true
	case s[0] == '(' && s[len(s)-1] == ')' && deep < 6:
		return alternation(s[1:len(s)-1], deep+1)
	case s[0] == '[' && s[len(s)-1] == ']':
		return class(s[1 : len(s)-1])
	}
	return Node{}, false
}

// class is the tree of what stands between the brackets of a class.
func class(s string) (Node, bool) {
	make := in
	if strings.HasPrefix(s, "^") {
		s, make = s[1:], out
	}
	var bytes []int // those behind a backslash are 256 more
	for i := 0; i < len(s); i++ {
		switch {
		case s[i] != '\\' && s[i] != ']':
			bytes = append(bytes, int(s[i]))
		case s[i] == '\\' && i+1 < len(s):
			i++
			bytes = append(bytes, int(s[i])+256)
		default:
			return Node{}, false
		}
	}
	list := ""
	for len(bytes) > 0 {
		if len(bytes) < 3 || bytes[1] != '-' {
			list, bytes = list+string([]byte{byte(bytes[0])}), bytes[1:]
			continue
		}
		if bytes[0]%256 > bytes[2]%256 {
			return Node{}, false
		}
		for c := bytes[0] % 256; c <= bytes[2]%256; c++ {
			list += string([]byte{byte(c)})
		}
		bytes = bytes[3:]
	}
	return make(list), true
}

// goesOn tells whether s and one of the ends, and brackets as far as they are needed, are a pattern.
func goesOn(s string, ends ...string) bool {
	for _, end := range ends {
		for range 1 + min(6, strings.Count(s, "(")) {
			if _, ok := alternation(s+end, 0); ok {
				return true
			}
			end += ")"
		}
	}
	return false
}

// place is where P6.3 says that s is wrong: behind the longest beginning that some text makes a pattern of, but at the bracket of a class that is open there, or at a backslash that is the last byte.
func place(s string) int {
	k := 0
	for k < len(s) && goesOn(s[:k+1], "", "z", "]", "z]") {
		k++
	}
	slashes := k - len(strings.TrimRight(s[:k], "\\"))
	if slashes%2 == 0 && goesOn(s[:k], "") {
		return k
	}
	if goesOn(s[:k], "z") {
		return len(s) - 1
	}
	for k--; !goesOn(s[:k], ""); {
		k--
	}
	return k
}

// P6.2, P6.3: every text of some bytes up to a length, against the reading of the tests.
func TestAllTexts(t *testing.T) {
	for _, c := range []struct {
		first, of string
		most      int
	}{
		{"", "ab|()*+?[]-^\\.", 4}, {"", "a|()*", 6}, {"", "a()\\", 6}, {"", "(a+?|", 5},
		{"[", "]^-\\ac", 5}, {"[^", "]^-\\a", 5}, {"([", "])-\\a", 5}, {"x[a-", "]-\\ab)", 4},
		{"(((((", "()a*", 5}, {"((((((", "()[]", 5}, {"()((((", "()|", 6},
	} {
		each(c.first, c.of, c.most, func(s string) { compare(t, s) })
	}
}

// each calls f with all texts that begin so and go on with up to so many of the bytes.
func each(s, of string, most int, f func(string)) {
	f(s)
	for i := 0; i < len(of) && most > 0; i++ {
		each(s+of[i:i+1], of, most-1, f)
	}
}

// compare compares what Parse answers with the reading of the tests.
func compare(t *testing.T, s string) {
	t.Helper()
	if want, ok := alternation(s, 0); ok {
		check(t, s, want, -1)
		return
	}
	check(t, s, nothing(), place(s))
}

// P6.2, P6.3: long texts made of pieces by chance.
func TestLongTexts(t *testing.T) {
	r := rand.New(rand.NewSource(62))
	parts := []string{"a", "b", "|", "(", ")", "(a", "b)", "*", "+", "?", ".", "[a-c]", "[^x]", "\\*", "\\", "[", "]", "c", "()", "=>"}
	for range 20000 {
		s := ""
		for range r.Intn(9) {
			s += parts[r.Intn(len(parts)-r.Intn(2)*8)]
		}
		compare(t, s)
	}
}

// P6.4: Quote byte by byte.
func TestQuote(t *testing.T) {
	for s, want := range map[string]string{
		"": "", "a": "a", "ab-c": "ab-c", "^$": "^$", "a.b": `a\.b`, "()": `\(\)`, "[]": `\[\]`, "*+?|": `\*\+\?\|`, `\`: `\\`, `\\`: `\\\\`, `\.`: `\\\.`,
		"=> ": "=> ", "(=>)": `\(=>\)`, "a\x00\xff\n": "a\x00\xff\n", "\u00e9.": "\u00e9\\.", "\xc3.": "\xc3\\.",
	} {
		if got := Quote(s); got != want {
			t.Errorf("Quote(%q) = %q, want %q", s, got, want)
		}
	}
	for c := range 256 {
		s := string([]byte{byte(c)})
		want := s
		switch s {
		case "(", ")", "[", "]", ".", "*", "+", "?", "|", "\\":
			want = "\\" + s
		}
		if got := Quote(s); got != want || Quote(s+s) != want+want || Quote("a"+s+"b") != "a"+want+"b" {
			t.Errorf("Quote(%q) = %q, want %q", s, got, want)
		}
	}
	if s := strings.Repeat("ab.c", 1<<18); Quote(s) != strings.Repeat("ab\\.c", 1<<18) {
		t.Error("Quote of a long text")
	}
}

// P6.2, P6.4: what Quote makes is a pattern of these bytes alone.
func TestQuoteParse(t *testing.T) {
	r := rand.New(rand.NewSource(64))
	for range 5000 {
		list := make([]byte, r.Intn(33))
		for i := range list {
			list[i] = byte(r.Intn(256))
			if r.Intn(2) == 0 {
				list[i] = `()[].*+?|\-^`[r.Intn(12)]
			}
		}
		check(t, Quote(string(list)), rowOf(list), -1)
	}
}

// spoil alters every node in its place.
func spoil(n *Node) {
	for i := range n.Kids {
		spoil(&n.Kids[i])
	}
	*n = Node{Kind: 9, Set: Set{9, 9, 9, 9}, Kids: append(n.Kids, Node{Kind: 9})}
}

// W2, W6: each answer is the same, and shares no memory with another one, nor one part of it with another part.
func TestMemory(t *testing.T) {
	for _, s := range []string{"", "a", "(ab)+", "((ab)+|c)+", "(a|[bc])*d?", "((a+)+)+", "(a*)+", "(a?)+"} {
		want, _ := alternation(s, 0)
		first, _ := Parse(s)
		second, _ := Parse(s)
		spoil(&first)
		check(t, s, want, -1)
		if !same(second, want) {
			t.Errorf("Parse(%q) gave memory away twice", s)
		}
		lists := map[*Node]bool{}
		count(t, s, second, lists)
	}
}

// count fails if a list of the tree is there twice.
func count(t *testing.T, s string, n Node, lists map[*Node]bool) {
	if len(n.Kids) == 0 {
		return
	}
	if lists[&n.Kids[0]] {
		t.Errorf("Parse(%q) has a list twice", s)
	}
	lists[&n.Kids[0]] = true
	for _, kid := range n.Kids {
		count(t, s, kid, lists)
	}
}
