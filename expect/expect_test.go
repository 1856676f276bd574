package expect

import (
	"errors"
	"math/rand"
	"regexp"
	"slices"
	"strconv"
	"strings"
	"testing"

	"lifeline/api"
	"lifeline/regex"
)

// The signatures of the chapter, to the letter.
var (
	_ func(...string) (*Watch, error) = Of
	_ func(*Watch, byte) (int, bool)  = (*Watch).Put
	_ func(*Watch) int                = (*Watch).Seen
	_ func(*Watch) bool               = (*Watch).Over
)

// watch is a Watch of patterns that are admissible, of which nothing has been seen.
func watch(t *testing.T, patterns ...string) *Watch {
	t.Helper()
	w, err := Of(patterns...)
	if err != nil || w == nil {
		t.Fatalf("Of(%q) = %v, %v", patterns, w, err)
	}
	if w.Seen() != 0 || w.Over() {
		t.Fatalf("Of(%q): Seen %d, Over %v", patterns, w.Seen(), w.Over())
	}
	return w
}

// refuses compares the error of patterns of which one is not admissible.
func refuses(t *testing.T, want error, patterns ...string) {
	t.Helper()
	if w, err := Of(patterns...); w != nil || err != want {
		t.Errorf("Of(%q) = %v, %v, want %v", patterns, w, err, want)
	}
}

// put puts a byte, and compares all that can be asked; arm is -1 if no pattern should end.
func put(t *testing.T, name string, w *Watch, c byte, arm int) {
	t.Helper()
	seen := w.Seen()
	got, ok := w.Put(c)
	if ok != (arm >= 0) || got != max(arm, 0) {
		t.Fatalf("%s: Put(%q), byte %d, = %d, %v, want %d", name, c, seen, got, ok, arm)
	}
	if w.Seen() != seen+1 || w.Over() != ok {
		t.Fatalf("%s: behind byte %d: Seen %d, Over %v", name, seen, w.Seen(), w.Over())
	}
}

// idle puts bytes that should have no effect.
func idle(t *testing.T, name string, w *Watch, s string) {
	t.Helper()
	seen := w.Seen()
	for i := range len(s) {
		if arm, ok := w.Put(s[i]); arm != 0 || ok || w.Seen() != seen || !w.Over() {
			t.Fatalf("%s: Put(%q) of a Watch that is over = %d, %v; Seen %d, Over %v", name, s[i], arm, ok, w.Seen(), w.Over())
		}
	}
}

// run puts a whole text: arm should end with the byte ahead of seen; -1, if none ends.
func run(t *testing.T, patterns []string, s string, arm, seen int) {
	t.Helper()
	w, name := watch(t, patterns...), strconv.Quote(strings.Join(patterns, "  "))+" in "+strconv.Quote(s)
	for i := range len(s) {
		if arm >= 0 && i == seen {
			idle(t, name, w, s[i:])
			return
		}
		want := -1
		if i == seen-1 {
			want = arm
		}
		put(t, name, w, s[i], want)
	}
}

// reach are, in order, the places at which strings that match n and that begin at one of the places from can end: layer 7's words, one Kind after the other.
func reach(n regex.Node, s string, from ...int) []int {
	var places []int
	switch n.Kind {
	case regex.Nothing:
		places = from
	case regex.One:
		for _, k := range from {
			if k < len(s) && n.Set[s[k]/64]&(1<<(s[k]%64)) != 0 {
				places = append(places, k+1)
			}
		}
	case regex.Then:
		places = reach(n.Kids[1], s, reach(n.Kids[0], s, from...)...)
	case regex.Either:
		places = slices.Concat(reach(n.Kids[0], s, from...), reach(n.Kids[1], s, from...))
	case regex.Star:
		places = from
		for more := -1; more != len(places); {
			more = len(places)
			places = tidy(slices.Concat(places, reach(n.Kids[0], s, places...)))
		}
	}
	return tidy(places)
}

// tidy are the same numbers, each once, in order.
func tidy(list []int) []int { return slices.Compact(slices.Sorted(slices.Values(list))) }

// fits tells whether the whole of a string matches.
func fits(n regex.Node, s string) bool { return slices.Contains(reach(n, s, 0), len(s)) }

// tree is the tree of a pattern.
func tree(t *testing.T, s string) regex.Node {
	t.Helper()
	n, err := regex.Parse(s)
	if err != nil {
		t.Fatalf("Parse(%q): %v", s, err)
	}
	return n
}

// reading is what the chapter says of a text: which pattern ends first, and how many bytes that takes; -1 and all of them, if none does.
func reading(s string, fit ...func(string) bool) (arm, seen int) {
	for k := 1; k <= len(s); k++ {
		for arm, f := range fit {
			for i := range k {
				if f(s[i:k]) {
					return arm, k
				}
			}
		}
	}
	return -1, len(s)
}

// trees are what tells, by the definition, whether a string matches each of the patterns.
func trees(t *testing.T, patterns []string) []func(string) bool {
	t.Helper()
	var list []func(string) bool
	for _, p := range patterns {
		n := tree(t, p)
		list = append(list, func(s string) bool { return fits(n, s) })
	}
	return list
}

// P9.1: from one to eight patterns; none and more are ErrLimit, whatever they are.
func TestHowMany(t *testing.T) {
	refuses(t, api.ErrLimit)
	refuses(t, api.ErrLimit, []string{}...)
	refuses(t, api.ErrLimit, []string(nil)...)
	for n := range 70 {
		for _, p := range []string{"a", "", "(", "b*", strings.Repeat("a", 65)} {
			list := slices.Repeat([]string{p}, n)
			switch {
			case n == 0 || n > 8:
				refuses(t, api.ErrLimit, list...)
			case p == "a":
				watch(t, list...)
			default:
				_, err := Of(list[:1]...)
				refuses(t, err, list...)
			}
		}
	}
	refuses(t, api.ErrLimit, "a", "b", "c", "d", "e", "f", "g", "h", "i")
	refuses(t, api.ErrLimit, "(", "b", "c", "d", "e", "f", "g", "h", "i")
	refuses(t, api.ErrLimit, "a", "b", "c", "d", "e", "f", "g", "h", "")
	run(t, []string{"a", "b", "c", "d", "e", "f", "g", "h"}, "ih", 7, 2)
}

// faults are patterns that are not admissible, with their errors.
func faults() map[string]error {
	return map[string]error{
		"":                            api.ErrPattern,
		"()":                          api.ErrPattern,
		"|":                           api.ErrPattern,
		"a|":                          api.ErrPattern,
		"|a":                          api.ErrPattern,
		"a|b*":                        api.ErrPattern,
		"a*":                          api.ErrPattern,
		"a?":                          api.ErrPattern,
		".*":                          api.ErrPattern,
		"[]*":                         api.ErrPattern,
		"(a*)+":                       api.ErrPattern,
		"a*b?(c|)":                    api.ErrPattern,
		strings.Repeat("a?", 32):      api.ErrPattern,
		"(":                           api.Wrap(api.ErrPattern, 1),
		")":                           api.Wrap(api.ErrPattern, 0),
		"ab)":                         api.Wrap(api.ErrPattern, 2),
		"(a":                          api.Wrap(api.ErrPattern, 2),
		"*":                           api.Wrap(api.ErrPattern, 0),
		"a**":                         api.Wrap(api.ErrPattern, 2),
		"a|+":                         api.Wrap(api.ErrPattern, 2),
		"?":                           api.Wrap(api.ErrPattern, 0),
		"ab[c":                        api.Wrap(api.ErrPattern, 2),
		"x[b-a]":                      api.Wrap(api.ErrPattern, 1),
		"]":                           api.Wrap(api.ErrPattern, 0),
		`abc\`:                        api.Wrap(api.ErrPattern, 3),
		"(((((((a)))))))":             api.Wrap(api.ErrPattern, 6),
		strings.Repeat("a", 63) + "(": api.Wrap(api.ErrPattern, 64),
		strings.Repeat("a", 65):       api.Wrap(api.ErrLimit, 64),
		strings.Repeat("a*", 33):      api.Wrap(api.ErrLimit, 64),
		strings.Repeat("(", 65):       api.Wrap(api.ErrLimit, 64),
		strings.Repeat("a", 5000):     api.Wrap(api.ErrLimit, 64),
	}
}

// P9.1: the error of a pattern that is not admissible, at each place among others that are; it has a position only if it is that of regex.Parse.
func TestFaults(t *testing.T) {
	for p, want := range faults() {
		for n := range 8 {
			for k := range n + 1 {
				list := slices.Repeat([]string{"a"}, n+1)
				list[k] = p
				refuses(t, want, list...)
			}
		}
		_, err := Of(p)
		_, fault := err.(api.Fault)
		if _, parsed := regex.Parse(p); fault != (parsed != nil) || parsed != nil && err != parsed {
			t.Errorf("Of(%q): %#v, and regex.Parse: %v", p, err, parsed)
		}
		if api.Number(err) == 0 || fault != (api.Place(err) >= 0) || !errors.Is(err, api.Number(want)) {
			t.Errorf("Of(%q): %#v", p, err)
		}
	}
}

// P9.1: of several patterns that are not admissible, the first one counts, whatever is wrong with the others.
func TestFirstFault(t *testing.T) {
	all := faults()
	for p, want := range all {
		for other := range all {
			refuses(t, want, p, other)
			refuses(t, want, "a", p, other, "b")
			refuses(t, want, "a", "b+", "[c]", "d", "e", "f", p, other)
			refuses(t, want, p, "a", "b", "c", "d", "e", "f", other)
		}
	}
}

// P9.1: what is admissible, and at the edge of it: 64 bytes, six levels, a single byte that matches.
func TestAdmissible(t *testing.T) {
	for _, p := range []string{"a", "a+", "(a|b)+", "a*b", "ab*", "[]", "[]+", "a[]", ".", "()a", "((((((a))))))", strings.Repeat("a", 64), strings.Repeat("a?", 31) + "aa", "\x00", "\xff", `\\`, `\*`} {
		watch(t, p)
		watch(t, "x", p)
		watch(t, slices.Repeat([]string{p}, 8)...)
	}
}

// texts are all texts of up to so many of the bytes, the shorter ones first.
func texts(of string, most int) []string {
	list := []string{""}
	for from := 0; most > 0; most-- {
		to := len(list)
		for _, s := range list[from:to] {
			for i := range len(of) {
				list = append(list, s+of[i:i+1])
			}
		}
		from = to
	}
	return list
}

// P9.1: every text of some bytes up to a length, alone and behind another pattern.
func TestAllTexts(t *testing.T) {
	made := 0
	for _, s := range texts("a()*|[\\", 5) {
		n, err := regex.Parse(s)
		if err == nil && fits(n, "") {
			err = api.ErrPattern
		}
		if err != nil {
			refuses(t, err, s)
			refuses(t, err, "b", s, "(")
			continue
		}
		made++
		watch(t, s)
		refuses(t, api.Wrap(api.ErrPattern, 1), s, "(")
	}
	if made < 100 {
		t.Error(made)
	}
}

// P9.2: which pattern ends first, and behind how many bytes, worked out by hand; -1 where none does.
func TestKnownRuns(t *testing.T) {
	for _, c := range []struct {
		patterns  string
		s         string
		arm, seen int
	}{
		// The chapter's example, and the order of patterns that end at once.
		{"ab b", "ab", 0, 2},
		{"b ab", "ab", 0, 2},
		{"ab b", "bab", 1, 1},
		{"ab b", "b", 1, 1},
		{"c ab b", "xab", 1, 3},
		{"c b ab", "xab", 1, 3},
		{"a a a", "a", 0, 1},
		{"b a a", "a", 1, 1},
		{"x y z u v w s a", "bba", 7, 3},
		{"x y z u v w a a", "bba", 6, 3},
		// The one that ends first counts, not the one that begins first, nor the one ahead in the list.
		{"abc b", "abc", 1, 2},
		{"abcd bc", "abcd", 1, 3},
		{"abcd c bc", "abcd", 1, 3},
		{"abc c", "abc", 0, 3},
		{"aab ab b", "aab", 0, 3},
		{"b+c b+", "bbc", 1, 1},
		{"a.*b xx", "axx", 1, 3},
		{"a.*b xx", "axyb", 0, 4},
		// Nothing that ends.
		{"a", "", -1, 0},
		{"a", "bbbb", -1, 4},
		{"ab", "a", -1, 1},
		{"ab", "aaaa", -1, 4},
		{"ab cd", "acbdcb", -1, 6},
		{"[]", "abc", -1, 3},
		{"a[] []+b", "aab", -1, 3},
		{"[] b", "ab", 1, 2},
		// Where a text that fits may begin: anywhere, while others are under way.
		{"a", "bbba", 0, 4},
		{"aab", "aaaab", 0, 5},
		{"abac", "ababac", 0, 6},
		{"ababc", "abababc", 0, 7},
		{"aabaaa", "aabaabaaa", 0, 9},
		{"nano", "nannano", 0, 7},
		{"ab*c", "abbabbc", 0, 7},
		{"ab*c", "abbdc", -1, 5},
		{"a+b", "xaaxaab", 0, 7},
		{"a..d", "aaabd", 0, 5},
		{"a..d", "axd", -1, 3},
		{"(ab|ba)+c", "abbac", 0, 5},
		{"xa|xb", "xxb", 0, 3},
		// What a board says.
		{"=>_ login:_", "U-Boot\r\n=>_", 0, 11},
		{"=>_ login:_", "==>_", 0, 4},
		{"=>_ login:_", "=>log in:_", -1, 10},
		{"=>_ login:_", "lologin:_=>_", 1, 9},
		{"=>_ >_ login:_", "=>_", 0, 3},
		{"login:_ =>_ >_", "->_", 2, 3},
		{"sum_[0-9a-f]+_[0-9]+_", "sum_1000_sum_1000_3_", 0, 20},
		{"ok|OK err(or)?|fail", "an error", 1, 6},
		// A byte is a byte.
		{".", "\x00", 0, 1},
		{". \xff", "\xff", 0, 1},
		{"\xa9", "\u00e9", 0, 2},
		{"\u00e9", "\u00e9", 0, 2},
		{"[^a]", "aaa\n", 0, 4},
		{`\. .`, "a", 1, 1},
		{`\. .`, ".", 0, 1},
	} {
		patterns := strings.Split(c.patterns, " ")
		run(t, patterns, c.s, c.arm, c.seen)
		if arm, seen := reading(c.s, trees(t, patterns)...); arm != c.arm || seen != c.seen {
			t.Errorf("%q in %q: the test reads %d, %d", patterns, c.s, arm, seen)
		}
	}
}

// P9.2: every pair of short patterns with every short text, against the readings of the tests.
func TestAllPairs(t *testing.T) {
	var patterns []string
	for _, p := range slices.Concat(texts("ab*|", 3), []string{"ab+", "b+a", "(ab)+", "a(b|)a", "a?b", "[^a]b", "..", ".a", "(a|b)b", "a.*b", "abab", "aab*a"}) {
		if n, err := regex.Parse(p); err == nil && !fits(n, "") {
			patterns = append(patterns, p)
		}
	}
	var ends [][]int
	strs := texts("ab", 5)
	for _, p := range patterns {
		var list []int
		for _, s := range strs {
			arm, seen := reading(s, trees(t, []string{p})...)
			run(t, []string{p}, s, arm, seen)
			if arm < 0 {
				seen = len(s) + 1
			}
			list = append(list, seen)
		}
		ends = append(ends, list)
	}
	if len(patterns) < 30 {
		t.Error(len(patterns))
	}
	for i, p := range patterns {
		for j, q := range patterns {
			for k, s := range strs {
				arm, seen := 0, ends[i][k]
				if ends[j][k] < seen {
					arm, seen = 1, ends[j][k]
				}
				if seen > len(s) {
					arm, seen = -1, len(s)
				}
				run(t, []string{p, q}, s, arm, seen)
			}
		}
	}
}

// chance is a pattern made by chance, of atoms and of smaller patterns.
func chance(r *rand.Rand, size int) string {
	if size <= 0 {
		return []string{"a", "b", "c", "ab", "[ab]", "[^a]", ".", "[^b-d]", "d", "aa"}[r.Intn(10)]
	}
	switch r.Intn(5) {
	case 0:
		return "(" + chance(r, size-2) + "|" + chance(r, size-2) + ")"
	case 1:
		return "(" + chance(r, size-1) + ")" + []string{"*", "+", "?", ""}[r.Intn(4)]
	case 2:
		return "abc"[r.Intn(3):][:1] + []string{"*", "+", "?"}[r.Intn(3)] + chance(r, size-1)
	}
	return chance(r, size-2) + chance(r, size-2)
}

// admissible are patterns made by chance, up to most of them, that do not match the empty string.
func admissible(r *rand.Rand, most int) []string {
	var list []string
	for n := 1 + r.Intn(most); len(list) < n; {
		p := chance(r, 1+r.Intn(7))
		if tree, err := regex.Parse(p); err == nil && !fits(tree, "") {
			list = append(list, p)
		}
	}
	return list
}

// words are a string of some bytes made by chance.
func words(r *rand.Rand, of string, most int) string {
	b := make([]byte, r.Intn(most+1))
	for i := range b {
		b[i] = of[r.Intn(len(of))]
	}
	return string(b)
}

// P9.2: up to eight larger patterns, against the readings of the tests and against the library's regular expressions.
func TestByChance(t *testing.T) {
	r := rand.New(rand.NewSource(91))
	arms := make([]int, 8)
	for range 4000 {
		patterns := admissible(r, 8)
		s := words(r, []string{"aabbcd\n", "aaab", "abcdefgh"}[r.Intn(3)], 14)
		if r.Intn(2) == 0 {
			// Long patterns that seldom end: what comes late is looked at, too.
			for i, p := range patterns {
				if len(p) < 50 {
					patterns[i] = "(" + p + ")" + []string{"e", "c[ab]+c", "bab", "aaaa"}[r.Intn(4)]
				}
			}
			s = words(r, "abc", 20) + words(r, "abcde", 10)
		}
		var known []func(string) bool
		for _, p := range patterns {
			known = append(known, regexp.MustCompile("(?s)^(?:"+p+")$").MatchString)
		}
		arm, seen := reading(s, trees(t, patterns)...)
		if a, n := reading(s, known...); a != arm || n != seen {
			t.Fatalf("%q in %q: the library says %d, %d, the test reads %d, %d", patterns, s, a, n, arm, seen)
		}
		run(t, patterns, s, arm, seen)
		if seen > 3 && arm >= 0 {
			arms[arm]++
		}
	}
	if slices.Min(arms) < 10 {
		t.Error(arms)
	}
}

// P9.2: any bytes, in patterns and in texts.
func TestAnyBytes(t *testing.T) {
	r := rand.New(rand.NewSource(92))
	some := "\x00\x3f\x40\x7f\x80\xbf\xc0\xff"
	for range 3000 {
		var patterns []string
		for range 1 + r.Intn(4) {
			p := regex.Quote(some[r.Intn(8):][:1])
			for range r.Intn(4) {
				c := regex.Quote(some[r.Intn(8):][:1])
				p += []string{c, c + "*", c + "+", c + "?", "[^" + c + "]", ".", "[" + c + "-\xff]"}[r.Intn(7)]
			}
			patterns = append(patterns, p)
		}
		s := words(r, some, 10)
		arm, seen := reading(s, trees(t, patterns)...)
		run(t, patterns, s, arm, seen)
	}
	for i := range 256 {
		c := byte(i)
		run(t, []string{regex.Quote(string([]byte{c}))}, string([]byte{c + 1, c - 1, c ^ 64, c ^ 128, c}), 0, 5)
		run(t, []string{"[^" + regex.Quote(string([]byte{c})) + "]", "."}, string([]byte{c}), 1, 1)
	}
}

// P9.2: a Watch that is over takes no byte any more, not even one with which a pattern would end.
func TestOver(t *testing.T) {
	var all []byte
	for i := range 256 {
		all = append(all, byte(i))
	}
	for _, patterns := range [][]string{{"a"}, {"b", "a"}, {"xa", "a", "."}, {"a", "aa"}, {"aa", "a"}, {"b", "c", "d", "e", "f", "g", "h", "a"}} {
		w := watch(t, patterns...)
		for i := range patterns {
			if patterns[i] == "a" {
				put(t, "over", w, 'a', i)
			}
		}
		for range 3 {
			idle(t, "over", w, string(all)+"aaa")
		}
		if w.Seen() != 1 || !w.Over() {
			t.Errorf("%q: Seen %d, Over %v", patterns, w.Seen(), w.Over())
		}
	}
}

// P9.2: each Put is counted, and asking changes nothing.
func TestSeen(t *testing.T) {
	w := watch(t, "ab", "cd")
	for i := range 1000 {
		for range 3 {
			if w.Seen() != i || w.Over() {
				t.Fatal(i, w.Seen(), w.Over())
			}
		}
		put(t, "seen", w, "acbdda"[i%6], -1)
	}
	put(t, "seen", w, 'c', -1)
	put(t, "seen", w, 'd', 1)
	if w.Seen() != 1002 || !w.Over() {
		t.Error(w.Seen(), w.Over())
	}
}

// P9.2: long texts, with a match that begins long ahead, or late.
func TestLongTexts(t *testing.T) {
	const size = 1 << 17
	s := strings.Repeat("ab", size/2)
	run(t, []string{"c"}, s, -1, size)
	run(t, []string{"b[ab]+c", "bc", "xy"}, s+"c", 0, size+1)
	run(t, []string{"xa*", "bb", "(ab)+c"}, s+"c", 2, size+1)
	run(t, []string{"a(ab)+c", "abc"}, s+"c", 1, size+1)
	run(t, []string{"x(ab)*c", "ccc"}, "x"+s+"c", 0, size+2)
	run(t, []string{"x(ab)*c", "y[abx]*c"}, "yx"+s+"bc", 1, size+4)
	run(t, []string{"aa", "a[ab]*a[ab]*b[ab]*cc"}, s, -1, size)
}

// W1, P9.2: eight of the greatest patterns that 64 bytes and 6 levels allow.
func TestGreatPatterns(t *testing.T) {
	nested := func(s, end string) string { return "((((((" + s + strings.Repeat(")"+end, 6) }
	patterns := []string{
		nested(strings.Repeat("a*", 22)+"b", "+") + "e",
		nested("a"+strings.Repeat("a?", 22), "+") + "f",
		nested(strings.Repeat("a|", 22)+"b", "+") + "g",
		nested(strings.Repeat("a", 45), "+") + "h",
		"(a*a*a*a*a*a*a*a*a*a*a*a*a*a*a*)*(a|aa)+i",
		strings.Repeat("a?", 20) + strings.Repeat("a", 20) + "j",
		strings.Repeat("a", 64),
		nested(".+.+.+.+.+.+.+.+.+.+.+.+.+.+.+", "+") + "k",
	}
	s := strings.Repeat("a", 63)
	for arm, end := range []string{"be", "f", "g", strings.Repeat("a", 27) + "h", "i", "j", "a", "k"} {
		list := patterns
		if arm == 3 {
			list = slices.Concat(patterns[:6], patterns[7:])
		}
		run(t, list, s+end, arm, len(s)+len(end))
	}
	run(t, patterns[6:7], s+"b"+s+"b"+s+"aaa", 0, 3*64)
}

// W2, W6: a Watch depends neither on other ones nor on the list that it was made of, and a copy of it goes its own way.
func TestMemory(t *testing.T) {
	list := []string{"abc", "x+y"}
	first, second := watch(t, list...), watch(t, list...)
	if !slices.Equal(list, []string{"abc", "x+y"}) {
		t.Error(list)
	}
	list[0], list[1] = "z", "("
	put(t, "first", first, 'a', -1)
	put(t, "first", first, 'b', -1)
	third := *first
	put(t, "second", second, 'c', -1)
	put(t, "second", second, 'x', -1)
	put(t, "copy", &third, 'x', -1)
	put(t, "first", first, 'z', -1)
	put(t, "second", second, 'y', 1)
	put(t, "copy", &third, 'x', -1)
	put(t, "first", first, 'a', -1)
	fourth := third
	put(t, "copy", &third, 'y', 1)
	put(t, "first", first, 'b', -1)
	put(t, "first", first, 'c', 0)
	put(t, "copy of the copy", &fourth, 'y', 1)
	if first.Seen() != 6 || second.Seen() != 3 || third.Seen() != 5 || fourth.Seen() != 5 {
		t.Error(first.Seen(), second.Seen(), third.Seen(), fourth.Seen())
	}
}

// W1: a Watch that Of did not make sees bytes and is never over.
func TestZeroWatch(t *testing.T) {
	var w Watch
	for i := range 300 {
		put(t, "zero", &w, byte(i), -1)
	}
}
