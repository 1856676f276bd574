package nfa

import (
	"math/rand"
	"reflect"
	"regexp"
	"slices"
	"strconv"
	"strings"
	"testing"

	"lifeline/regex"
)

// The signatures of the chapter, to the letter.
var (
	_ func(regex.Node) *Table                 = Of
	_ func(*Table) int                        = (*Table).Len
	_ func(*Table) bool                       = (*Table).Empty
	_ func(*Table, []bool, byte, bool) []bool = (*Table).Step
	_ func(*Table, []bool) bool               = (*Table).Ends
	_ func(*Table, string) bool               = (*Table).Fits
)

// parsed is the tree of a pattern.
func parsed(t *testing.T, s string) regex.Node {
	t.Helper()
	n, err := regex.Parse(s)
	if err != nil {
		t.Fatalf("Parse(%q): %v", s, err)
	}
	return n
}

// ones are the Sets of the Ones of a tree, from left to right.
func ones(n regex.Node) []regex.Set {
	if n.Kind == regex.One {
		return []regex.Set{n.Set}
	}
	var list []regex.Set
	for _, kid := range n.Kids {
		list = append(list, ones(kid)...)
	}
	return list
}

// matches tells whether a string matches a pattern, in the chapter's words: every way of dividing it is tried.
func matches(n regex.Node, s string) bool {
	switch n.Kind {
	case regex.Nothing:
		return s == ""
	case regex.One:
		return len(s) == 1 && n.Set[s[0]/64]&(1<<(s[0]%64)) != 0
	case regex.Either:
		return matches(n.Kids[0], s) || matches(n.Kids[1], s)
	case regex.Then:
		for k := range len(s) + 1 {
			if matches(n.Kids[0], s[:k]) && matches(n.Kids[1], s[k:]) {
				return true
			}
		}
		return false
	}
	for k := 1; k <= len(s); k++ {
		if matches(n.Kids[0], s[:k]) && matches(n, s[k:]) {
			return true
		}
	}
	return s == ""
}

// words are rows of positions at which the bytes of a string can be matched, the first position being from; a Star is gone through twice at most, which is enough for every position to come behind every one that it can.
func words(n regex.Node, from int) map[string]bool {
	switch n.Kind {
	case regex.Nothing:
		return map[string]bool{"": true}
	case regex.One:
		return map[string]bool{string([]byte{byte(from)}): true}
	}
	first := words(n.Kids[0], from)
	if n.Kind == regex.Star {
		list := joined(first, first)
		list[""] = true
		for w := range first {
			list[w] = true
		}
		return list
	}
	second := words(n.Kids[1], from+len(ones(n.Kids[0])))
	if n.Kind == regex.Then {
		return joined(first, second)
	}
	list := map[string]bool{}
	for _, kid := range []map[string]bool{first, second} {
		for w := range kid {
			list[w] = true
		}
	}
	return list
}

// count is how many words there are at most: far too many, where Stars are within one another.
func count(n regex.Node) float64 {
	if len(n.Kids) == 0 {
		return 1
	}
	first := count(n.Kids[0])
	switch n.Kind {
	case regex.Star:
		return 1 + first + first*first
	case regex.Then:
		return first * count(n.Kids[1])
	}
	return first + count(n.Kids[1])
}

// joined are all words of one list with all of another behind.
func joined(a, b map[string]bool) map[string]bool {
	list := map[string]bool{}
	for v := range a {
		for w := range b {
			list[v+w] = true
		}
	}
	return list
}

// shape is what a Table should be: its positions' Sets; where a string begins and ends; which position comes behind which.
type shape struct {
	sets         []regex.Set
	begins, ends []bool
	leads        [][]bool
	empty        bool
}

// blank is a shape of these positions, with nothing true.
func blank(n regex.Node) shape {
	m := shape{sets: ones(n)}
	m.begins = make([]bool, len(m.sets))
	m.ends = make([]bool, len(m.sets))
	for range m.sets {
		m.leads = append(m.leads, make([]bool, len(m.sets)))
	}
	return m
}

// shaped is the shape of a pattern, as its words show it.
func shaped(n regex.Node) shape {
	m := blank(n)
	for w := range words(n, 0) {
		if w == "" {
			m.empty = true
			continue
		}
		m.begins[w[0]] = true
		m.ends[w[len(w)-1]] = true
		for i := range len(w) - 1 {
			m.leads[w[i]][w[i+1]] = true
		}
	}
	return m
}

// step is what Step should answer.
func (m shape) step(at []bool, c byte, begin bool) []bool {
	next := make([]bool, len(m.sets))
	for q, s := range m.sets {
		reached := begin && m.begins[q]
		for p := range m.sets {
			reached = reached || p < len(at) && at[p] && m.leads[p][q]
		}
		next[q] = reached && s[c/64]&(1<<(c%64)) != 0
	}
	return next
}

// end is what Ends should answer.
func (m shape) end(at []bool) bool {
	for p := range m.sets {
		if p < len(at) && at[p] && m.ends[p] {
			return true
		}
	}
	return false
}

// same compares lists, of which one without elements may be nil (W7).
func same(a, b []bool) bool { return slices.Equal(a, b) }

// only is a list that is true at one position of n.
func only(p, n int) []bool {
	at := make([]bool, n)
	at[p] = true
	return at
}

// compare compares a Table with a shape: each position alone, with bytes that some positions match and others do not.
func compare(t *testing.T, name string, x *Table, m shape, bytes string) {
	t.Helper()
	n := len(m.sets)
	if x.Len() != n || x.Empty() != m.empty || x.Fits("") != m.empty {
		t.Fatalf("%q: Len %d, Empty %v, Fits of nothing %v, want %d and %v", name, x.Len(), x.Empty(), x.Fits(""), n, m.empty)
	}
	ask := func(at []bool) {
		t.Helper()
		if got := x.Ends(at); got != m.end(at) {
			t.Fatalf("%q: Ends(%v) = %v", name, at, got)
		}
		for i := range len(bytes) {
			for _, begin := range []bool{false, true} {
				if got, want := x.Step(at, bytes[i], begin), m.step(at, bytes[i], begin); !same(got, want) {
					t.Fatalf("%q: Step(%v, %q, %v) = %v, want %v", name, at, bytes[i], begin, got, want)
				}
			}
		}
	}
	ask(nil)
	ask(make([]bool, n))
	for p := range n {
		ask(only(p, n))
	}
}

// list is numbers with blanks between.
func list(t *testing.T, s string) []int {
	t.Helper()
	var ns []int
	for _, f := range strings.Fields(s) {
		n, err := strconv.Atoi(f)
		if err != nil {
			t.Fatal(err)
		}
		ns = append(ns, n)
	}
	return ns
}

// P7.1, P7.2: Tables worked out by hand: how many positions; whether the empty string matches; where strings begin and end; and behind each position, in turn, those that can come.
func TestKnownTables(t *testing.T) {
	for _, c := range []struct {
		s            string
		n            int
		empty        bool
		begins, ends string
		leads        string
	}{
		{"", 0, true, "", "", ""},
		{"()", 0, true, "", "", ""},
		{"()*", 0, true, "", "", ""},
		{"()+", 0, true, "", "", ""},
		{"()?", 0, true, "", "", ""},
		{"|", 0, true, "", "", ""},
		{"a", 1, false, "0", "0", ""},
		{"(a)", 1, false, "0", "0", ""},
		{"()a", 1, false, "0", "0", ""},
		{"a()", 1, false, "0", "0", ""},
		{".", 1, false, "0", "0", ""},
		{"[ab]", 1, false, "0", "0", ""},
		{"[^ab]", 1, false, "0", "0", ""},
		{"a*", 1, true, "0", "0", "0"},
		{"(a*)*", 1, true, "0", "0", "0"},
		{"((a*)*)*", 1, true, "0", "0", "0"},
		{"a?", 1, true, "0", "0", ""},
		{"(a?)*", 1, true, "0", "0", "0"},
		{"(a*)?", 1, true, "0", "0", "0"},
		{"a|", 1, true, "0", "0", ""},
		{"|a", 1, true, "0", "0", ""},
		{"(a|)*", 1, true, "0", "0", "0"},
		{"(|a)*", 1, true, "0", "0", "0"},
		{"ab", 2, false, "0", "1", "1,"},
		{"aa", 2, false, "0", "1", "1,"},
		{"a|b", 2, false, "0 1", "0 1", ","},
		{"a|a", 2, false, "0 1", "0 1", ","},
		{"(a|b)*", 2, true, "0 1", "0 1", "0 1,0 1"},
		{"(ab)*", 2, true, "0", "1", "1,0"},
		{"(ab)?", 2, true, "0", "1", "1,"},
		{"ab*", 2, false, "0", "0 1", "1,1"},
		{"a*b", 2, false, "0 1", "1", "0 1,"},
		{"a*b*", 2, true, "0 1", "0 1", "0 1,1"},
		{"(a*b*)*", 2, true, "0 1", "0 1", "0 1,0 1"},
		{"(a*b)*", 2, true, "0 1", "1", "0 1,0 1"},
		{"(ab*)*", 2, true, "0", "0 1", "0 1,0 1"},
		{"ab?", 2, false, "0", "0 1", "1,"},
		{"a?b", 2, false, "0 1", "1", "1,"},
		{"a?b?", 2, true, "0 1", "0 1", "1,"},
		{"(a?b?)*", 2, true, "0 1", "0 1", "0 1,0 1"},
		{"a+", 2, false, "0", "0 1", "1,1"},
		{"(a*)+", 2, true, "0 1", "0 1", "0 1,1"},
		{"(a?)+", 2, true, "0 1", "0 1", "1,1"},
		{"(a+)?", 2, true, "0", "0 1", "1,1"},
		{"(a+)*", 2, true, "0", "0 1", "0 1,0 1"},
		{"abc", 3, false, "0", "2", "1,2,"},
		{"a(bc)", 3, false, "0", "2", "1,2,"},
		{"ab+", 3, false, "0", "1 2", "1,2,2"},
		{"a+b", 3, false, "0", "2", "1 2,1 2,"},
		{"ab?c", 3, false, "0", "2", "1 2,2,"},
		{"ab*c", 3, false, "0", "2", "1 2,1 2,"},
		{"a|b|c", 3, false, "0 1 2", "0 1 2", ",,"},
		{"a|bc", 3, false, "0 1", "0 2", ",2,"},
		{"ab|c", 3, false, "0 2", "1 2", "1,,"},
		{"a(b|c)", 3, false, "0", "1 2", "1 2,,"},
		{"(a|b)c", 3, false, "0 1", "2", "2,2,"},
		{"(a|b*)c", 3, false, "0 1 2", "2", "2,1 2,"},
		{"a(b|c*)", 3, false, "0", "0 1 2", "1 2,,2"},
		{"(a|bc)*", 3, true, "0 1", "0 2", "0 1,2,0 1"},
		{"a?b?c?", 3, true, "0 1 2", "0 1 2", "1 2,2,"},
		{"a*b?c*", 3, true, "0 1 2", "0 1 2", "0 1 2,2,2"},
		{"a(b|c)*d", 4, false, "0", "3", "1 2 3,1 2 3,1 2 3,"},
		{"(a?b)+", 4, false, "0 1", "1 3", "1,2 3,3,2 3"},
		{"(a+)+", 4, false, "0", "0 1 2 3", "1 2,1 2,2 3,2 3"},
		{"(ab)+c", 5, false, "0", "4", "1,2 4,3,2 4,"},
		{"c(ab)+", 5, false, "0", "2 4", "1,2,3,4,3"},
		// A One of no bytes is a position as any other.
		{"[]", 1, false, "0", "0", ""},
		{"[]a", 2, false, "0", "1", "1,"},
		{"a[]b", 3, false, "0", "2", "1,2,"},
		{"a([]|b)*", 3, false, "0", "0 1 2", "1 2,1 2,1 2"},
	} {
		n := parsed(t, c.s)
		m := blank(n)
		if len(m.sets) != c.n {
			t.Fatalf("%q has %d Ones", c.s, len(m.sets))
		}
		m.empty = c.empty
		for _, p := range list(t, c.begins) {
			m.begins[p] = true
		}
		for _, p := range list(t, c.ends) {
			m.ends[p] = true
		}
		for p, behind := range strings.Split(c.leads, ",") {
			for _, q := range list(t, behind) {
				m.leads[p][q] = true
			}
		}
		if !reflect.DeepEqual(m, shaped(n)) {
			t.Errorf("%q: the readings of the tests differ: %v, %v", c.s, m, shaped(n))
		}
		compare(t, c.s, Of(n), m, "abcdx\x00\xff")
	}
}

// P7.1: strings that match, and some that do not, worked out by hand.
func TestKnownFits(t *testing.T) {
	for s, fits := range map[string][2][]string{
		"":                    {{""}, {"a", "\x00", " "}},
		"()":                  {{""}, {"a", "()"}},
		"a":                   {{"a"}, {"", "b", "aa", "ab", "ba", "A"}},
		"ab*":                 {{"a", "ab", "abb", "abbb"}, {"", "b", "ba", "aab", "aba", "abc"}},
		"a*":                  {{"", "a", "aa", "aaaaaaaa"}, {"b", "ab", "ba", "aabaa"}},
		"a+":                  {{"a", "aa", "aaaaaaaa"}, {"", "b", "ab", "ba"}},
		"a?":                  {{"", "a"}, {"aa", "b", "ab"}},
		"a?a?a?aaa":           {{"aaa", "aaaa", "aaaaa", "aaaaaa"}, {"", "aa", "aaaaaaa"}},
		"a|b*":                {{"", "a", "b", "bb"}, {"ab", "aa", "ba"}},
		"a|":                  {{"", "a"}, {"aa", "b", "|"}},
		"(a|b)*abb":           {{"abb", "aabb", "ababb", "abbabb"}, {"", "ab", "abba", "abbb"}},
		"(ab|a)(bc|c)":        {{"abc", "abbc", "ac"}, {"a", "ab", "abcc", "c", "bc"}},
		"(a|ab)(c|bcd)(d*)":   {{"abcd", "abcdd", "ac", "acd", "abc"}, {"", "ab", "bcd", "abcdc"}},
		"((a|b)+c)?d":         {{"d", "acd", "abbacd"}, {"", "cd", "c", "ad", "acdacd"}},
		".":                   {{"a", "\x00", "\n", "\xff", "."}, {"", "aa", "\u00e9"}},
		"..":                  {{"\u00e9", "\xff\xff", "ab"}, {"", "a", "\u20ac"}},
		"\u00e9+":             {{"\u00e9", "\xc3\xa9\xa9"}, {"", "\xc3", "\u00e9\u00e9"}},
		".*=> ":               {{"=> ", "=> => ", "\r\n=> ", "==> "}, {"", "=>", "=>  ", "=> x"}},
		"[^a]b.":              {{"xbx", "bba"}, {"abx", "xb", "xbxx"}},
		"[a-c]+":              {{"a", "abc", "ccc"}, {"", "d", "abd", "-", "`"}},
		"[]":                  {{}, {"", "a", "]", "[]", "\x00"}},
		"[]*":                 {{""}, {"a", "[]"}},
		"[]|a":                {{"a"}, {"", "aa"}},
		"[]a":                 {{}, {"", "a", "aa"}},
		"a([]b)*c":            {{"ac"}, {"abc", "abbc", "a", "c"}},
		"[^]":                 {{"a", "\x00", "\xff"}, {"", "aa"}},
		`\*\\`:                {{`*\`}, {`*`, `\*\\`, `\\`}},
		regex.Quote("a.b*+?"): {{"a.b*+?"}, {"axb*+?", "a.b", "ab"}},
	} {
		x := Of(parsed(t, s))
		for _, text := range fits[0] {
			if !x.Fits(text) {
				t.Errorf("%q does not match %q", s, text)
			}
		}
		for _, text := range fits[1] {
			if x.Fits(text) {
				t.Errorf("%q matches %q", s, text)
			}
		}
	}
}

// each calls f with all texts of up to so many of the bytes.
func each(s, of string, most int, f func(string)) {
	f(s)
	for i := 0; i < len(of) && most > 0; i++ {
		each(s+of[i:i+1], of, most-1, f)
	}
}

// all are all texts of up to so many of the bytes.
func all(of string, most int) []string {
	var texts []string
	each("", of, most, func(s string) { texts = append(texts, s) })
	return texts
}

// P7.1, P7.2: every pattern of some bytes up to a length, against the readings of the tests.
func TestAllPatterns(t *testing.T) {
	texts, patterns := all("abc", 4), 0
	check := func(s string) {
		n, err := regex.Parse(s)
		if err != nil {
			return
		}
		patterns++
		x := Of(n)
		compare(t, s, x, shaped(n), "abc")
		for _, text := range texts {
			if got := x.Fits(text); got != matches(n, text) {
				t.Fatalf("%q, %q: Fits %v", s, text, got)
			}
		}
	}
	each("", "ab()*|", 6, check)
	each("", "ab+?", 6, check)
	each("(a", "b)*+|", 5, check)
	each("(a|b", ")*?c", 5, check)
	each("((a*", "b*)?", 5, check)
	if patterns < 7000 {
		t.Error(patterns)
	}
}

// random is a pattern with so many atoms, made by chance.
func random(r *rand.Rand, atoms, deep int) string {
	if atoms == 0 {
		return ""
	}
	if atoms == 1 || deep == 0 {
		list := []string{"a", "b", "c", "[ab]", "[^a]", ".", "[bc]"}
		return list[r.Intn(len(list))] + []string{"", "", "*", "?", "+"}[r.Intn(5)] + random(r, atoms-1, deep)
	}
	first := r.Intn(atoms + 1)
	switch r.Intn(3) {
	case 0:
		return "(" + random(r, first, deep-1) + "|" + random(r, atoms-first, deep-1) + ")" + []string{"", "*", "?"}[r.Intn(3)]
	case 1:
		return "(" + random(r, first, deep-1) + ")" + []string{"*", "?", "+"}[r.Intn(3)] + random(r, atoms-first, deep-1)
	}
	return random(r, first, deep-1) + random(r, atoms-first, deep-1)
}

// P7.2: several positions at once, lists shorter and longer than the positions, against the readings of the tests.
func TestSomePositions(t *testing.T) {
	r := rand.New(rand.NewSource(72))
	patterns := 0
	for range 4000 {
		n, err := regex.Parse(random(r, 1+r.Intn(6), 3))
		if err != nil || count(n) > 3000 {
			continue
		}
		patterns++
		x, m := Of(n), shaped(n)
		for range 30 {
			at := make([]bool, r.Intn(len(m.sets)+4))
			for i := range at {
				at[i] = r.Intn(3) == 0
			}
			c, begin := "abcd"[r.Intn(4)], r.Intn(2) == 0
			if got, want := x.Step(at, c, begin), m.step(at, c, begin); !same(got, want) {
				t.Fatalf("%v: Step(%v, %q, %v) = %v, want %v", n, at, c, begin, got, want)
			}
			if got := x.Ends(at); got != m.end(at) {
				t.Fatalf("%v: Ends(%v) = %v", n, at, got)
			}
		}
	}
	if patterns < 3000 {
		t.Error(patterns)
	}
}

// P7.1, P7.2: long patterns and texts against the library's regular expressions; and Step and Ends, byte by byte, against Fits.
func TestLibrary(t *testing.T) {
	r := rand.New(rand.NewSource(71))
	fit, not := 0, 0
	for range 3000 {
		s := random(r, r.Intn(24), 5)
		n, err := regex.Parse(s)
		if err != nil {
			continue
		}
		x, known := Of(n), regexp.MustCompile("(?s)^(?:"+s+")$")
		if x.Len() != len(ones(n)) || x.Empty() != known.MatchString("") {
			t.Fatalf("%q: Len %d, Empty %v", s, x.Len(), x.Empty())
		}
		for range 10 {
			text, at := "", []bool(nil)
			for range r.Intn(20) {
				c := "aabbccd"[r.Intn(7)]
				at = x.Step(at, c, text == "")
				text += string([]byte{c})
				if want := known.MatchString(text); x.Fits(text) != want || x.Ends(at) != want {
					t.Fatalf("%q, %q: Fits %v, Ends %v, want %v", s, text, x.Fits(text), x.Ends(at), want)
				} else if want {
					fit++
				} else {
					not++
				}
			}
		}
	}
	if fit < 1000 || not < 1000 {
		t.Error(fit, not)
	}
}

// P7.1, P7.2: every byte, where it can be the first one, and behind a position.
func TestEachByte(t *testing.T) {
	for _, s := range []string{"a", ".", "[]", "[^]", "[^a]", "[a-z]", "[\x00-\x3f]", "[\x40-\x7f]", "[\x80-\xbf]", "[\xc0-\xff]", "[\x00\x3f\x40\x7f\x80\xbf\xc0\xff]", "\x00", "\xff", `\\`} {
		n := parsed(t, s)
		set := n.Set
		alone, behind := Of(n), Of(parsed(t, s+s))
		for i := range 256 {
			c := byte(i)
			has := set[c/64]&(1<<(c%64)) != 0
			if got := alone.Fits(string([]byte{c})); got != has {
				t.Errorf("%q: Fits of %d: %v", s, c, got)
			}
			if got := alone.Step(nil, c, true); !same(got, []bool{has}) {
				t.Errorf("%q: Step of %d: %v", s, c, got)
			}
			if got := behind.Step([]bool{true, true}, c, false); !same(got, []bool{false, has}) {
				t.Errorf("%q: Step of %d behind one: %v", s, c, got)
			}
			if got := behind.Step([]bool{true}, c, true); !same(got, []bool{has, has}) {
				t.Errorf("%q: Step of %d behind one, or first: %v", s, c, got)
			}
		}
	}
}

// P7.2: elements that are missing count as false; those behind the last position are of no position.
func TestLists(t *testing.T) {
	x := Of(parsed(t, "ab*")) // both of its positions can end a string, and b comes behind both
	extra := make([]bool, 1000)
	for i := 2; i < len(extra); i++ {
		extra[i] = true
	}
	for _, at := range [][]bool{nil, {}, {false}, {false, false}, {false, false, true}, {false, false, true, true, true}, extra} {
		if x.Ends(at) {
			t.Errorf("Ends(%v)", at)
		}
		if got := x.Step(at, 'b', false); !same(got, []bool{false, false}) {
			t.Errorf("Step(%v, 'b', false) = %v", at, got)
		}
		if got := x.Step(at, 'a', true); !same(got, []bool{true, false}) {
			t.Errorf("Step(%v, 'a', true) = %v", at, got)
		}
	}
	for _, at := range [][]bool{{true}, {true, false}, {false, true}, {true, true}, {true, false, true}, {false, true, false, false}} {
		if !x.Ends(at) {
			t.Errorf("Ends(%v) is false", at)
		}
		if got := x.Step(at, 'b', false); !same(got, []bool{false, true}) {
			t.Errorf("Step(%v, 'b', false) = %v", at, got)
		}
		if got := x.Step(at, 'a', true); !same(got, []bool{true, false}) {
			t.Errorf("Step(%v, 'a', true) = %v", at, got)
		}
		if got := x.Step(at, 'a', false); !same(got, []bool{false, false}) {
			t.Errorf("Step(%v, 'a', false) = %v", at, got)
		}
	}
	none := Of(parsed(t, ""))
	if got := none.Step(extra, 'a', true); len(got) != 0 || none.Ends(extra) || none.Ends(nil) {
		t.Errorf("without positions: Step %v, Ends %v", got, none.Ends(extra))
	}
}

// P7.1, W1: patterns with as many positions, and as many pairs of them, as 64 bytes and 6 levels allow.
func TestGreat(t *testing.T) {
	nested := func(s, end string) *Table {
		return Of(parsed(t, "(((((("+s+strings.Repeat(")"+end, 6)))
	}
	once := nested("a+", "+")
	if once.Len() != 128 || once.Empty() {
		t.Errorf("Len %d, Empty %v", once.Len(), once.Empty())
	}
	for k := range 300 {
		if once.Fits(strings.Repeat("a", k)) != (k > 0) || once.Fits(strings.Repeat("a", k)+"b") {
			t.Fatalf("%d bytes", k)
		}
	}
	row := nested(strings.Repeat("a", 46), "+")
	if row.Len() != 46*64 || row.Empty() {
		t.Errorf("Len %d, Empty %v", row.Len(), row.Empty())
	}
	for k := range 200 {
		if row.Fits(strings.Repeat("a", k)) != (k > 0 && k%46 == 0) {
			t.Fatalf("%d bytes", k)
		}
	}
	dense := nested(strings.Repeat("a|", 22)+"bc", "+")
	if dense.Len() != 24*64 || dense.Empty() || !dense.Fits("aabca") || dense.Fits("aaba") || dense.Fits("") {
		t.Errorf("Len %d, Empty %v", dense.Len(), dense.Empty())
	}
	stars := nested("a*b*", "*")
	if stars.Len() != 2 || !stars.Empty() || !stars.Fits("abbaab") || stars.Fits("abc") {
		t.Errorf("Len %d, Empty %v", stars.Len(), stars.Empty())
	}
	sixtyFour := Of(parsed(t, strings.Repeat("a", 64)))
	if sixtyFour.Len() != 64 || !sixtyFour.Fits(strings.Repeat("a", 64)) || sixtyFour.Fits(strings.Repeat("a", 63)) || sixtyFour.Fits(strings.Repeat("a", 65)) {
		t.Errorf("Len %d", sixtyFour.Len())
	}
}

// P7.1: long texts.
func TestLongTexts(t *testing.T) {
	x := Of(parsed(t, "(ab|a)*c"))
	s := strings.Repeat("aba", 1<<16)
	if !x.Fits(s+"c") || x.Fits(s) || x.Fits(s+"bbc") || x.Fits("b"+s+"c") || x.Fits(s+"c"+s+"c") {
		t.Error("a long text")
	}
}

// W2: what a Table answers does not hang on what it was asked before.
func TestAskedAgain(t *testing.T) {
	x := Of(parsed(t, "a(b|c)*d"))
	for range 20 {
		if got := x.Step([]bool{false, true}, 'c', false); !same(got, []bool{false, false, true, false}) {
			t.Fatal(got)
		}
		if x.Fits("abc") || !x.Fits("abcd") || x.Ends([]bool{true}) || !x.Ends([]bool{false, false, false, true}) || x.Len() != 4 || x.Empty() {
			t.Fatal("another answer")
		}
		if got := x.Step(nil, 'b', true); !same(got, make([]bool, 4)) {
			t.Fatal(got)
		}
	}
}

// copied is a tree in memory of its own.
func copied(n regex.Node) regex.Node {
	c := regex.Node{Kind: n.Kind, Set: n.Set}
	for _, kid := range n.Kids {
		c.Kids = append(c.Kids, copied(kid))
	}
	return c
}

// spoil alters every node in its place.
func spoil(n *regex.Node) {
	for i := range n.Kids {
		spoil(&n.Kids[i])
	}
	n.Kind, n.Set = regex.Nothing, n.Set.Not()
}

// W6: neither the tree nor a list is modified or kept, and each answer is new memory.
func TestMemory(t *testing.T) {
	n := parsed(t, "(a|[bc])+d?")
	was := copied(n)
	first, second := Of(n), Of(n)
	if !reflect.DeepEqual(n, was) {
		t.Error("Of altered the tree")
	}
	spoil(&n)
	for _, x := range []*Table{first, second} {
		compare(t, "(a|[bc])+d?", x, shaped(was), "abcd")
	}
	at := []bool{true, false, true, false, false, true, true}
	old := slices.Clone(at)
	one := first.Step(at, 'a', true)
	two := first.Step(at, 'a', true)
	want := slices.Clone(one)
	for i := range one {
		one[i] = !one[i]
	}
	first.Ends(at)
	if !same(at, old) || !same(two, want) || !same(first.Step(at, 'a', true), want) {
		t.Errorf("%v, %v, %v", at, two, first.Step(at, 'a', true))
	}
	for i := range at {
		at[i] = !at[i]
	}
	if !same(two, want) || !same(second.Step(old, 'a', true), want) {
		t.Error("a list was kept")
	}
	compare(t, "(a|[bc])+d?", first, shaped(was), "abcd")
}

// W1: no Node makes a call panic, not even one that Parse does not make.
func TestOtherNodes(t *testing.T) {
	for _, n := range []regex.Node{
		{Kind: regex.Then}, {Kind: regex.Either}, {Kind: regex.Star}, {Kind: -1}, {Kind: 5},
		{Kind: regex.Then, Kids: []regex.Node{{Kind: regex.One}}},
		{Kind: regex.Either, Kids: []regex.Node{{Kind: regex.One}}},
		{Kind: regex.Star, Kids: []regex.Node{{Kind: regex.Then}, {Kind: regex.One}}},
		{Kind: regex.One, Kids: []regex.Node{{Kind: regex.One}, {Kind: regex.Star}}},
	} {
		x := Of(n)
		if x.Fits("") != x.Empty() || len(x.Step([]bool{true, true}, 'a', true)) != x.Len() || x.Ends(nil) {
			t.Errorf("%v: Len %d, Empty %v", n, x.Len(), x.Empty())
		}
	}
}
