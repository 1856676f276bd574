package match

import (
	"math"
	"math/rand"
	"reflect"
	"regexp"
	"slices"
	"strconv"
	"strings"
	"testing"

	"lifeline/nfa"
	"lifeline/regex"
)

// The signatures of the chapter, to the letter.
var (
	_ func(regex.Node, string, int) []int  = Ends
	_ func(regex.Node, string) (int, bool) = First
)

// tree is the tree of a pattern.
func tree(t *testing.T, s string) regex.Node {
	t.Helper()
	n, err := regex.Parse(s)
	if err != nil {
		t.Fatalf("Parse(%q): %v", s, err)
	}
	return n
}

// reach are, in order, the places at which strings that match n and that begin at one of the places from can end: the chapter's words, one Kind after the other.
func reach(n regex.Node, s string, from ...int) []int {
	var places []int
	switch n.Kind {
	case regex.Nothing:
		places = from
	case regex.One:
		for _, k := range from {
			if k < len(s) && n.Set[s[k]/64]&(1<<(s[k]%64)) != 0 {
				places = append(places, k+1)
			}
		}
	case regex.Then:
		places = reach(n.Kids[1], s, reach(n.Kids[0], s, from...)...)
	case regex.Either:
		places = slices.Concat(reach(n.Kids[0], s, from...), reach(n.Kids[1], s, from...))
	case regex.Star:
		places = from
		for more := -1; more != len(places); {
			more = len(places)
			places = tidy(slices.Concat(places, reach(n.Kids[0], s, places...)))
		}
	}
	return tidy(places)
}

// tidy are the same numbers, each once, in order.
func tidy(list []int) []int { return slices.Compact(slices.Sorted(slices.Values(list))) }

// least is the least of what reach tells of any beginning.
func least(n regex.Node, s string) (int, bool) {
	var begins []int
	for i := range len(s) + 1 {
		begins = append(begins, i)
	}
	places := reach(n, s, begins...)
	if len(places) == 0 {
		return 0, false
	}
	return places[0], true
}

// checkEnds compares what Ends answers.
func checkEnds(t *testing.T, name string, n regex.Node, s string, from int, want []int) {
	t.Helper()
	if got := Ends(n, s, from); !slices.Equal(got, want) {
		t.Fatalf("Ends(%q, %q, %d) = %v, want %v", name, s, from, got, want)
	}
}

// checkFirst compares what First answers.
func checkFirst(t *testing.T, name string, n regex.Node, s string, want int, found bool) {
	t.Helper()
	if got, ok := First(n, s); got != want || ok != found {
		t.Fatalf("First(%q, %q) = %d, %v, want %d, %v", name, s, got, ok, want, found)
	}
}

// compare compares all that can be asked of a pattern and a string with what the tests read.
func compare(t *testing.T, name string, n regex.Node, s string) {
	t.Helper()
	for from := range len(s) + 1 {
		checkEnds(t, name, n, s, from, reach(n, s, from))
	}
	want, found := least(n, s)
	checkFirst(t, name, n, s, want, found)
}

// P8.1: ends worked out by hand.
func TestKnownEnds(t *testing.T) {
	for _, c := range []struct {
		pattern, s string
		from       int
		want       string
	}{
		{"", "", 0, "[0]"},
		{"", "ab", 0, "[0]"},
		{"", "ab", 1, "[1]"},
		{"", "ab", 2, "[2]"},
		{"()", "ab", 1, "[1]"},
		{"a", "", 0, "[]"},
		{"a", "a", 0, "[1]"},
		{"a", "a", 1, "[]"},
		{"a", "ba", 0, "[]"},
		{"a", "ba", 1, "[2]"},
		{"a", "aaa", 0, "[1]"},
		{"a", "aaa", 1, "[2]"},
		{"a?", "aaa", 0, "[0 1]"},
		{"a?", "baa", 0, "[0]"},
		{"a?", "aaa", 3, "[3]"},
		{"a*", "", 0, "[0]"},
		{"a*", "aaa", 0, "[0 1 2 3]"},
		{"a*", "aaa", 1, "[1 2 3]"},
		{"a*", "aaa", 3, "[3]"},
		{"a*", "aabaa", 0, "[0 1 2]"},
		{"a*", "aabaa", 2, "[2]"},
		{"a*", "aabaa", 3, "[3 4 5]"},
		{"a+", "aaa", 0, "[1 2 3]"},
		{"a+", "aaa", 2, "[3]"},
		{"a+", "aaa", 3, "[]"},
		{"a+", "aabaa", 2, "[]"},
		{"ab", "abab", 0, "[2]"},
		{"ab", "abab", 1, "[]"},
		{"ab", "abab", 2, "[4]"},
		{"(ab)*", "abab", 0, "[0 2 4]"},
		{"(ab)*", "abab", 1, "[1]"},
		{"(ab)+", "ababa", 2, "[4]"},
		{"a|ab", "abc", 0, "[1 2]"},
		{"ab|a", "abc", 0, "[1 2]"},
		{"ab|abc|a", "abc", 0, "[1 2 3]"},
		{"a|b|", "ba", 0, "[0 1]"},
		{"(a|ab)(c|bcd)", "abcd", 0, "[3 4]"},
		{"(a|ab)(c|bcd)d*", "abcddd", 0, "[3 4 5 6]"},
		{"a(b|bc)*", "xabbcab", 1, "[2 3 4 5]"},
		{"a(b|bc)*", "xabbc", 0, "[]"},
		{"(aa|aaa)*", "aaaaa", 0, "[0 2 3 4 5]"},
		{"(aa)*", "aaaaa", 0, "[0 2 4]"},
		{"(aaa|aaaaa)+", "aaaaaaaaa", 0, "[3 5 6 8 9]"},
		{"(a*)*", "aab", 0, "[0 1 2]"},
		{"(a*b*)*", "abbac", 0, "[0 1 2 3 4]"},
		{"((ab)*c)*", "abcababcab", 0, "[0 3 8]"},
		{"a*b", "aabab", 0, "[3]"},
		{".*b", "aabab", 0, "[3 5]"},
		{".*", "a\x00\n\xff", 1, "[1 2 3 4]"},
		{"a?a?aa", "aaaaa", 0, "[2 3 4]"},
		{"a.c", "abc", 0, "[3]"},
		{"[ab]+", "abcab", 0, "[1 2]"},
		{"[^c]+", "abcab", 3, "[4 5]"},
		{"[]", "a", 0, "[]"},
		{"[]*", "a", 0, "[0]"},
		{"[]*a", "a", 0, "[1]"},
		{"a[]", "aa", 0, "[]"},
		{"[]|a", "aa", 1, "[2]"},
		{"a(b[])*c", "ac", 0, "[2]"},
		{`\*+`, "***", 0, "[1 2 3]"},
		{"\u00e9", "\u00e9", 0, "[2]"},
		{".", "\u00e9", 0, "[1]"},
		{".", "\u00e9", 1, "[2]"},
	} {
		got := Ends(tree(t, c.pattern), c.s, c.from)
		var words []string
		for _, k := range got {
			words = append(words, strconv.Itoa(k))
		}
		if list := "[" + strings.Join(words, " ") + "]"; list != c.want {
			t.Errorf("Ends(%q, %q, %d) = %s, want %s", c.pattern, c.s, c.from, list, c.want)
		}
		if now := reach(tree(t, c.pattern), c.s, c.from); !slices.Equal(now, got) {
			t.Errorf("%q, %q, %d: the test reads %v", c.pattern, c.s, c.from, now)
		}
	}
}

// P8.1: there are no ends if from is negative or greater than the length.
func TestFrom(t *testing.T) {
	for _, pattern := range []string{"", "a", "a*", ".*", "()*", "|a"} {
		n := tree(t, pattern)
		for _, s := range []string{"", "a", "aaaa", strings.Repeat("a", 300)} {
			for _, from := range []int{-1, -2, -len(s), -len(s) - 1, math.MinInt, math.MinInt + 1, math.MinInt32, len(s) + 1, len(s) + 2, 2*len(s) + 1, math.MaxInt32, math.MaxInt - 1, math.MaxInt} {
				if from >= 0 && from <= len(s) {
					continue
				}
				if got := Ends(n, s, from); len(got) != 0 {
					t.Errorf("Ends(%q, %q, %d) = %v", pattern, s, from, got)
				}
			}
			var end []int
			if pattern != "a" {
				end = []int{len(s)}
			}
			checkEnds(t, pattern, n, s, len(s), end)
		}
	}
}

// P8.1: the first ends worked out by hand; -1 where there is none.
func TestKnownFirst(t *testing.T) {
	for _, c := range []struct {
		pattern, s string
		want       int
	}{
		{"", "", 0},
		{"", "abc", 0},
		{"()", "abc", 0},
		{"a|", "abc", 0},
		{"b?", "abc", 0},
		{"b*", "xx", 0},
		{"(a*b*)*", "ab", 0},
		{"a", "", -1},
		{"a", "a", 1},
		{"a", "b", -1},
		{"a", "ba", 2},
		{"a", "baa", 2},
		{"b+", "aabb", 3},
		{"bb", "aabb", 4},
		{"aab", "aaab", 4},
		{"aab", "aabaab", 3},
		{"abab", "ababab", 4},
		{"abac", "ababac", 6},
		{"ab|b", "ab", 2},
		{"aab|ab|b", "aab", 3},
		{"abc|b", "abc", 2},
		{"b|abc", "abc", 2},
		{"abcd|c", "abcd", 3},
		{"abcd|bc", "abcd", 3},
		{"ab*c", "xabbbc", 6},
		{"ab*c", "abbabc", 6},
		{"ab*c", "abbabd", -1},
		{"a.*b", "xaxbxb", 4},
		{".*b", "xaxbxb", 4},
		{"a(b|bc)*", "xxab", 3},
		{"a(b|bc)*", "xx", -1},
		{"ab(b|bc)*", "xxab", 4},
		{"(a|b)(a|b)", "cacab", 5},
		{"=> ", "U-Boot\r\n=> ", 11},
		{"=> ", "==> =>", 4},
		{"=> ", "=>=>=>", -1},
		{"[0-9]+", "sum 1000", 5},
		{"[]", "aaa", -1},
		{"[]|b", "ab", 2},
		{".", "\xff", 1},
		{"[^a]", "aa\x00", 3},
		{"\xa9", "\u00e9", 2},
	} {
		want, found := c.want, true
		if c.want < 0 {
			want, found = 0, false
		}
		n := tree(t, c.pattern)
		checkFirst(t, c.pattern, n, c.s, want, found)
		if now, ok := least(n, c.s); now != want || ok != found {
			t.Errorf("%q, %q: the test reads %d, %v", c.pattern, c.s, now, ok)
		}
	}
}

// texts are all texts of up to so many of the bytes, the shorter ones first.
func texts(of string, most int) []string {
	list := []string{""}
	for from := 0; most > 0; most-- {
		to := len(list)
		for _, s := range list[from:to] {
			for i := range len(of) {
				list = append(list, s+of[i:i+1])
			}
		}
		from = to
	}
	return list
}

// P8.1: every pattern of some bytes up to a length with every short string, against the readings of the tests.
func TestAllPatterns(t *testing.T) {
	strs, patterns := texts("abc", 4), 0
	for _, c := range []struct {
		first, of string
		most      int
	}{
		{"", "ab()*|", 5}, {"", "ab+?", 5}, {"(a", "b)*+|", 4}, {"(a|b", ")*?c", 4}, {"((a*", "b*)?", 4}, {"(aa|", "ab)*", 5},
	} {
		for _, end := range texts(c.of, c.most) {
			n, err := regex.Parse(c.first + end)
			if err != nil {
				continue
			}
			patterns++
			for _, s := range strs {
				compare(t, c.first+end, n, s)
			}
		}
	}
	if patterns < 1500 {
		t.Error(patterns)
	}
}

// chance is a pattern made by chance, of atoms and of smaller patterns.
func chance(r *rand.Rand, size int) string {
	if size <= 0 {
		return []string{"a", "b", "c", "ab", "[ab]", "[^a]", ".", "[^b-d]", "", "aa"}[r.Intn(10)]
	}
	switch r.Intn(5) {
	case 0:
		return chance(r, size-2) + "|" + chance(r, size-2)
	case 1:
		return "(" + chance(r, size-1) + ")" + []string{"*", "+", "?", ""}[r.Intn(4)]
	case 2:
		return "abc"[r.Intn(3):][:1] + []string{"*", "+", "?"}[r.Intn(3)] + chance(r, size-1)
	}
	return chance(r, size-2) + chance(r, size-2)
}

// words are a string of some bytes made by chance.
func words(r *rand.Rand, of string, most int) string {
	b := make([]byte, r.Intn(most+1))
	for i := range b {
		b[i] = of[r.Intn(len(of))]
	}
	return string(b)
}

// P8.1: larger patterns and longer strings, against the readings of the tests, against layer 7 and against the library's regular expressions.
func TestByChance(t *testing.T) {
	r := rand.New(rand.NewSource(81))
	ends, firsts := 0, 0
	for range 6000 {
		pattern := chance(r, r.Intn(9))
		n, err := regex.Parse(pattern)
		if err != nil {
			continue
		}
		s := words(r, []string{"aabbcd\n", "aaab"}[r.Intn(2)], 14)
		compare(t, pattern, n, s)
		whole, known := nfa.Of(n), regexp.MustCompile("(?s)^(?:"+pattern+")$")
		from, first := r.Intn(len(s)/2+1), -1
		var list []int
		for k := range len(s) + 1 {
			fits := k >= from && known.MatchString(s[from:k])
			if k >= from && whole.Fits(s[from:k]) != fits {
				t.Fatalf("%q, %q: the library matches: %v", pattern, s[from:k], fits)
			}
			if fits {
				list = append(list, k)
			}
			for i := range k + 1 {
				if first < 0 && known.MatchString(s[i:k]) {
					first = k
				}
			}
		}
		checkEnds(t, pattern, n, s, from, list)
		checkFirst(t, pattern, n, s, max(first, 0), first >= 0)
		if len(list) > 2 {
			ends++
		}
		if first > 1 {
			firsts++
		}
	}
	if ends < 400 || firsts < 1000 {
		t.Error(ends, firsts)
	}
}

// P8.1: any bytes, in patterns and in strings, against layer 7.
func TestAnyBytes(t *testing.T) {
	r := rand.New(rand.NewSource(82))
	some := "\x00\x3f\x40\x7f\x80\xbf\xc0\xff"
	for range 3000 {
		var pattern string
		for range r.Intn(5) {
			c := regex.Quote(some[r.Intn(8):][:1])
			pattern += []string{c, c + "*", c + "+", c + "?", "[^" + c + "]", ".", c + "|", "[" + c + "-\xff]"}[r.Intn(8)]
		}
		n, s := tree(t, pattern), words(r, some, 8)
		compare(t, pattern, n, s)
		whole := nfa.Of(n)
		for from := range len(s) + 1 {
			var list []int
			for k := from; k <= len(s); k++ {
				if whole.Fits(s[from:k]) {
					list = append(list, k)
				}
			}
			checkEnds(t, pattern, n, s, from, list)
		}
	}
}

// P8.1: every byte alone.
func TestEachByte(t *testing.T) {
	for _, pattern := range []string{"a", ".", "[]", "[^]", "[^a]", "[a-z]", "[\x00-\x3f]", "[\x40-\x7f]", "[\x80-\xbf]", "[\xc0-\xff]", "\x00", "\xff", `\\`} {
		n := tree(t, pattern)
		for i := range 256 {
			s := string([]byte{byte(i)})
			if n.Set[i/64]&(1<<(i%64)) != 0 {
				checkEnds(t, pattern, n, s, 0, []int{1})
				checkFirst(t, pattern, n, s, 1, true)
			} else {
				checkEnds(t, pattern, n, s, 0, nil)
				checkFirst(t, pattern, n, s, 0, false)
			}
		}
	}
}

// up are the numbers from one to another, by steps.
func up(from, to, by int) []int {
	var list []int
	for k := from; k <= to; k += by {
		list = append(list, k)
	}
	return list
}

// P8.1: long strings.
func TestLongStrings(t *testing.T) {
	const size = 1 << 18
	s := strings.Repeat("ab", size/2)
	all, one := tree(t, "(((((.*)*)*)*)*)*"), tree(t, "(ab|a)*c")
	checkEnds(t, "stars", all, s, 0, up(0, size, 1))
	checkEnds(t, "pairs", tree(t, "(ab)+"), s, 2, up(4, size, 2))
	checkEnds(t, "none", one, s, 0, nil)
	checkEnds(t, "at the end", one, s+"c", 0, []int{size + 1})
	checkEnds(t, "near the end", one, s+"c", size, []int{size + 1})
	checkFirst(t, "at the end", one, s+"c", size+1, true)
	checkFirst(t, "none", one, s+s, 0, false)
	checkFirst(t, "none", tree(t, "a[ab]*a[ab]*b[ab]*[^ab]"), s, 0, false)
	checkFirst(t, "far", tree(t, "bab[^a]"), s+"b", size+1, true)
	// Where nothing can go on, it does not matter how much follows: all beginnings of a long string are asked.
	b := tree(t, "b+")
	for from := range 1 << 16 {
		var want []int
		if from%2 == 1 {
			want = []int{from + 1}
		}
		checkEnds(t, "b+", b, s, from, want)
	}
}

// W1, P8.1: the greatest patterns that 64 bytes and 6 levels allow, with strings that can be divided in many ways.
func TestGreatPatterns(t *testing.T) {
	nested := func(s, end string) regex.Node {
		return tree(t, "(((((("+s+strings.Repeat(")"+end, 6))
	}
	s := strings.Repeat("a", 400)
	row := nested(strings.Repeat("a", 46), "+")
	checkEnds(t, "row", row, s, 0, up(46, 400, 46))
	checkEnds(t, "row", row, s, 354, []int{400})
	checkEnds(t, "row", row, s, 355, nil)
	checkFirst(t, "row", row, s, 46, true)
	checkFirst(t, "row", row, s[:45], 0, false)
	dense := nested(strings.Repeat("a|", 22)+"bc", "+")
	checkEnds(t, "dense", dense, s+"b", 0, up(1, 400, 1))
	checkEnds(t, "dense", dense, s+"bcb", 1, append(up(2, 400, 1), 402))
	checkFirst(t, "dense", dense, "xbbbc", 5, true)
	many := tree(t, "(a*a*a*a*a*a*a*a*a*a*a*a*a*a*a*)*(a|aa)+b")
	checkEnds(t, "many", many, s, 0, nil)
	checkEnds(t, "many", many, s+"b", 0, []int{401})
	checkFirst(t, "many", many, s+"b", 401, true)
	checkFirst(t, "many", many, s, 0, false)
	options := tree(t, strings.Repeat("a?", 20)+strings.Repeat("a", 20))
	checkEnds(t, "options", options, s, 0, up(20, 40, 1))
	checkFirst(t, "options", options, s, 20, true)
	line := tree(t, strings.Repeat("a", 64))
	checkEnds(t, "line", line, s, 336, []int{400})
	checkEnds(t, "line", line, s, 337, nil)
	checkFirst(t, "line", line, s, 64, true)
}

// W2, W6: the tree is not altered and not kept, each answer is the same and new memory.
func TestMemory(t *testing.T) {
	const pattern, s = "(a|[bc])+d?", "xabcdd"
	n, fresh := tree(t, pattern), tree(t, pattern)
	first := Ends(n, s, 1)
	second := Ends(n, s, 1)
	for i := range first {
		first[i] = -1
	}
	checkFirst(t, pattern, n, s, 2, true)
	checkEnds(t, pattern, n, s, 3, []int{4, 5})
	want := []int{2, 3, 4, 5}
	checkEnds(t, pattern, n, s, 1, want)
	if !slices.Equal(second, want) || !reflect.DeepEqual(n, fresh) {
		t.Errorf("%v, %v", second, n)
	}
	n.Kids[0].Kind = regex.Nothing
	checkEnds(t, pattern, fresh, s, 1, want)
	checkFirst(t, pattern, fresh, s, 2, true)
}

// W1: no Node makes a call panic, not even one that Parse does not make.
func TestOtherNodes(t *testing.T) {
	one := regex.Node{Kind: regex.One, Set: regex.Set{}.Not()}
	for _, n := range []regex.Node{
		{Kind: regex.Then}, {Kind: regex.Either}, {Kind: regex.Star}, {Kind: -1}, {Kind: 5}, {Kind: math.MaxInt}, {Kind: regex.One},
		{Kind: regex.Nothing, Kids: []regex.Node{one}},
		{Kind: regex.One, Kids: []regex.Node{one, one}},
		{Kind: regex.Then, Kids: []regex.Node{one}},
		{Kind: regex.Then, Kids: []regex.Node{one, {Kind: 7}, one}},
		{Kind: regex.Either, Kids: []regex.Node{one}},
		{Kind: regex.Either, Kids: []regex.Node{one, one, one}},
		{Kind: regex.Star, Kids: []regex.Node{{Kind: regex.Then}, one}},
	} {
		for from := -1; from < 5; from++ {
			for _, k := range Ends(n, "abc", from) {
				if k < from || k > 3 {
					t.Errorf("%v: Ends from %d: %d", n, from, k)
				}
			}
		}
		if k, ok := First(n, "abc"); k < 0 || k > 3 || !ok && k != 0 {
			t.Errorf("%v: First %d, %v", n, k, ok)
		}
	}
}
