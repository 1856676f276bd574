package dialog

import (
	"math"
	"math/rand"
	"regexp"
	"slices"
	"strconv"
	"strings"
	"sync"
	"testing"
	"unsafe"

	"lifeline/api"
)

// The signatures of the chapter, to the letter, and what a step has.
var (
	_ func([]Step) string          = Text
	_ func(string) ([]Step, error) = Parse
	_ func([]Step, string) int     = Find
	_ func([]Step) (int, error)    = Check

	_ = Step{Label: "", Kind: Send, Text: "", Arms: []Arm{{Pattern: "", To: ""}}, N: 0, To: "", At: 0}
)

// Steps of each kind, without a label, as if they began at 0.
func send(text string) Step                   { return Step{Kind: Send, Text: text} }
func awaits(n int, to string, as ...Arm) Step { return Step{Kind: Expect, Arms: as, N: n, To: to} }
func jump(to string) Step                     { return Step{Kind: Goto, To: to} }
func retry(n int, to string) Step             { return Step{Kind: Try, N: n, To: to} }
func done() Step                              { return Step{Kind: Done} }
func failed() Step                            { return Step{Kind: Fail} }

// named is a step with a label.
func named(label string, s Step) Step {
	s.Label = label
	return s
}

// from is a step that begins at a place.
func from(at int, s Step) Step {
	s.At = at
	return s
}

// same tells whether two steps are alike in all that they have.
func same(a, b Step) bool {
	return a.Label == b.Label && a.Kind == b.Kind && a.Text == b.Text && slices.Equal(a.Arms, b.Arms) && a.N == b.N && a.To == b.To && a.At == b.At
}

// The words of the kinds, as the chapter gives them.
var kinds = []string{"send", "expect", "go", "try", "done", "fail"}

// The kinds have the numbers from 0 on, in order.
func TestKinds(t *testing.T) {
	for k, got := range []Kind{Send, Expect, Goto, Try, Done, Fail} {
		if int(got) != k {
			t.Error(k, got)
		}
	}
}

// P17.1: lines worked out by hand.
func TestText(t *testing.T) {
	for _, c := range []struct {
		s    Step
		want string
	}{
		{send("\r"), `send "\r";`},
		{send("x"), `send "x";`},
		{send(""), `send "";`},
		{send("a \"b\"\\\r\n~ #;"), `send "a \"b\"\\\r\n~ #;";`},
		{send(strings.Repeat("n", 5000)), `send "` + strings.Repeat("n", 5000) + `";`},
		{awaits(5, "a", Arm{"=> ", "b"}), `expect "=> " go b after 5 go a;`},
		{awaits(5, "c", Arm{"=> ", "b"}, Arm{"n[0-9]", "a"}), `expect "=> " go b, "n[0-9]" go a after 5 go c;`},
		{awaits(99, "x-1", Arm{`\.`, "a"}, Arm{"", "b"}, Arm{"\"", "c"}), `expect "\\." go a, "" go b, "\"" go c after 99 go x-1;`},
		{awaits(10, "go", Arm{"a", "go"}), `expect "a" go go after 10 go go;`},
		{jump("b"), `go b;`},
		{jump("go"), `go go;`},
		{retry(3, "a"), `try 3 go a;`},
		{retry(9, "try"), `try 9 go try;`},
		{done(), `done;`},
		{failed(), `fail;`},
		// Numbers that Parse refuses, and none.
		{retry(0, "a"), `try 0 go a;`},
		{retry(10, "a"), `try 10 go a;`},
		{retry(-1, "a"), `try -1 go a;`},
		{retry(-160, "a"), `try -160 go a;`},
		{retry(math.MaxInt, "a"), `try 9223372036854775807 go a;`},
		{retry(math.MinInt, "a"), `try -9223372036854775808 go a;`},
		{awaits(0, "a", Arm{"a", "b"}), `expect "a" go b after 0 go a;`},
		{awaits(-7, "a", Arm{"a", "b"}), `expect "a" go b after -7 go a;`},
		{awaits(1<<40, "a", Arm{"a", "b"}), `expect "a" go b after 1099511627776 go a;`},
		{awaits(math.MinInt, "a", Arm{"a", "b"}), `expect "a" go b after -9223372036854775808 go a;`},
		// Texts that no String can denote.
		{send("\x00"), `send ;`},
		{send("a\tb"), `send ;`},
		{send("a\x7f"), `send ;`},
		{send("\u00e4"), `send ;`},
		{awaits(5, "a", Arm{"\x1f", "b"}), `expect  go b after 5 go a;`},
		{awaits(5, "a", Arm{"x", "b"}, Arm{"a\xff", "c"}, Arm{"y", "d"}), `expect "x" go b,  go c, "y" go d after 5 go a;`},
		// No arms, no targets, and targets that are no Words: they are written as they are.
		{awaits(5, "a"), `expect  after 5 go a;`},
		{awaits(5, "", Arm{"x", ""}), `expect "x" go  after 5 go ;`},
		{awaits(5, "A;", Arm{"x", "\"\n"}), "expect \"x\" go \"\n after 5 go A;;"},
		{jump(""), `go ;`},
		{jump("\x00 B"), "go \x00 B;"},
		{retry(3, ""), `try 3 go ;`},
		// What a kind does not have is left out.
		{Step{Kind: Send, Text: "x", Arms: []Arm{{"y", "b"}}, N: 3, To: "c", At: 7}, `send "x";`},
		{Step{Kind: Expect, Text: "x", Arms: []Arm{{"y", "b"}}, N: 3, To: "c", At: 7}, `expect "y" go b after 3 go c;`},
		{Step{Kind: Goto, Text: "x", Arms: []Arm{{"y", "b"}}, N: 3, To: "c", At: 7}, `go c;`},
		{Step{Kind: Try, Text: "x", Arms: []Arm{{"y", "b"}}, N: 3, To: "c", At: 7}, `try 3 go c;`},
		{Step{Kind: Done, Text: "x", Arms: []Arm{{"y", "b"}}, N: 3, To: "c", At: 7}, `done;`},
		{Step{Kind: Fail, Text: "x", Arms: []Arm{{"y", "b"}}, N: 3, To: "c", At: 7}, `fail;`},
		// The zero step.
		{Step{}, `send "";`},
	} {
		if got := Text([]Step{c.s}); got != c.want+"\n" {
			t.Errorf("%.200q, not %.200q", got, c.want)
		}
		// The same behind labels, also those that are no Words.
		for _, label := range []string{"a", "send", "x-1", "A", " ", ":", "\x00\"\n", strings.Repeat("n", 5000)} {
			if got := Text([]Step{named(label, c.s)}); got != label+": "+c.want+"\n" {
				t.Errorf("%.200q, not %.200q: %.200q", got, label, c.want)
			}
		}
	}
}

// P17.1: a kind below Send counts as Send, one above Fail as Fail.
func TestTextNoKind(t *testing.T) {
	whole := func(k Kind) Step {
		return Step{Label: "a", Kind: k, Text: "x", Arms: []Arm{{"y", "b"}}, N: 3, To: "c"}
	}
	for _, k := range []Kind{-1, -2, -5, -6, -255, -256, -1 << 32, math.MinInt, math.MinInt + 1} {
		if got := Text([]Step{whole(k)}); got != "a: send \"x\";\n" {
			t.Error(k, got)
		}
		if got := Text([]Step{{Kind: k, Text: "\x00"}}); got != "send ;\n" {
			t.Error(k, got)
		}
	}
	for _, k := range []Kind{6, 7, 8, 10, 11, 12, 255, 256, 257, 1 << 32, 1<<32 + 1, math.MaxInt} {
		if got := Text([]Step{whole(k)}); got != "a: fail;\n" {
			t.Error(k, got)
		}
	}
}

// P17.1: a line for each step, in order, whatever is wrong with them, and however many there are.
func TestTextLines(t *testing.T) {
	for _, ss := range [][]Step{nil, {}} {
		if got := Text(ss); got != "" {
			t.Errorf("%q", got)
		}
	}
	ss := []Step{named("a", send("\r")), awaits(5, "a", Arm{"=> ", "b"}), named("b", done()), named("b", done()), {Kind: -1}, jump("nowhere"), retry(3, "a"), {Kind: 6}, failed()}
	want := "a: send \"\\r\";\nexpect \"=> \" go b after 5 go a;\nb: done;\nb: done;\nsend \"\";\ngo nowhere;\ntry 3 go a;\nfail;\nfail;\n"
	if got := Text(ss); got != want {
		t.Errorf("%q", got)
	}
	for _, n := range []int{1, 2, 63, 64, 65, 20000} {
		if got := Text(slices.Repeat([]Step{named("a", retry(3, "b"))}, n)); got != strings.Repeat("a: try 3 go b;\n", n) {
			t.Error(n, len(got))
		}
		arm := slices.Repeat([]Arm{{"x", "b"}}, n)
		if got := Text([]Step{awaits(5, "a", arm...)}); got != "expect \"x\" go b"+strings.Repeat(", \"x\" go b", n-1)+" after 5 go a;\n" {
			t.Error(n, len(got))
		}
	}
}

// reads expects these steps of a text.
func reads(t *testing.T, s string, want ...Step) {
	t.Helper()
	if got, err := Parse(s); err != nil || !slices.EqualFunc(got, want, same) {
		t.Errorf("%.300q: %v, %v, not %v", s, got, err, want)
	}
}

// fails expects no steps, and an error at a place.
func fails(t *testing.T, s string, no api.Errno, place int) {
	t.Helper()
	if got, err := Parse(s); len(got) != 0 || err != api.Wrap(no, place) {
		t.Errorf("%.300q: %v, %v, not %v", s, got, err, api.Wrap(no, place))
	}
}

// P17.2: a step of each kind, and what it has.
func TestParse(t *testing.T) {
	reads(t, `send "\r";`, send("\r"))
	reads(t, `send "";`, send(""))
	reads(t, `send "\"\\\r\n ~#;";`, send("\"\\\r\n ~#;"))
	reads(t, `send "`+strings.Repeat("n", 4000)+`";`, send(strings.Repeat("n", 4000)))
	reads(t, `expect "=> " go b after 5 go a;`, awaits(5, "a", Arm{"=> ", "b"}))
	reads(t, `expect "=> " go b, "n[0-9]" go a after 5 go c;`, awaits(5, "c", Arm{"=> ", "b"}, Arm{"n[0-9]", "a"}))
	reads(t, `expect "x" go a, "x" go a, "x" go a after 5 go a;`, awaits(5, "a", Arm{"x", "a"}, Arm{"x", "a"}, Arm{"x", "a"}))
	reads(t, `go b;`, jump("b"))
	reads(t, `try 3 go a;`, retry(3, "a"))
	reads(t, `done;`, done())
	reads(t, `fail;`, failed())
	// The chapter's example.
	reads(t, `a: send "\r"; expect "=> " go b after 5 go a; b: done;`, named("a", send("\r")), from(14, awaits(5, "a", Arm{"=> ", "b"})), from(46, named("b", done())))
	// Strings that look like other tokens.
	reads(t, `send ":";`, send(":"))
	reads(t, `send ";"; send "send"; send "# x";`, send(";"), from(10, send("send")), from(23, send("# x")))
	reads(t, `expect "," go a, "go" go b, "after" go c after 5 go d;`, awaits(5, "d", Arm{",", "a"}, Arm{"go", "b"}, Arm{"after", "c"}))
	// What Check refuses is no error here.
	reads(t, `expect "" go nowhere, "(" go nowhere after 1 go nowhere;`, awaits(1, "nowhere", Arm{"", "nowhere"}, Arm{"(", "nowhere"}))
	reads(t, `a: done; a: done; go b;`, named("a", done()), from(9, named("a", done())), from(18, jump("b")))
	reads(t, `expect "x" go a`+strings.Repeat(`, "x" go a`, 20)+` after 1 go a;`, awaits(1, "a", slices.Repeat([]Arm{{"x", "a"}}, 21)...))
}

// P17.2: the numbers, in both bases, from 1 to 99 and from 1 to 9.
func TestParseNumbers(t *testing.T) {
	for n := range 300 {
		for _, s := range []string{strconv.Itoa(n), "0x" + strconv.FormatInt(int64(n), 16)} {
			wait, again := `a: expect "x" go b after `, `done; try `
			if n >= 1 && n <= 99 {
				reads(t, wait+s+` go c;`, named("a", awaits(n, "c", Arm{"x", "b"})))
			} else {
				fails(t, wait+s+` go c;`, api.ErrRange, len(wait))
			}
			if n >= 1 && n <= 9 {
				reads(t, again+s+` go c;`, done(), from(6, retry(n, "c")))
			} else {
				fails(t, again+s+` go c;`, api.ErrRange, len(again))
			}
		}
	}
	for _, s := range []string{"256", "257", "65537", "0x10001", "2147483648", "2147483649", "0x80000001", "4294967295", "0xffffffff"} {
		fails(t, `try `+s+` go c;`, api.ErrRange, 4)
		fails(t, `expect "x" go b after `+s+` go c;`, api.ErrRange, 22)
	}
}

// P17.2: a Word before a ":" is a label, and a Word behind go is a target, whatever it is.
func TestParseWords(t *testing.T) {
	for _, w := range append([]string{"a", "b", "after", "a-1", "x--", "sends", "z9", "do", "go-", strings.Repeat("n", 3000)}, kinds...) {
		n := len(w)
		reads(t, w+`: send "x";`, named(w, send("x")))
		reads(t, w+`: expect "x" go a after 5 go b;`, named(w, awaits(5, "b", Arm{"x", "a"})))
		reads(t, w+`: go a;`, named(w, jump("a")))
		reads(t, w+`: try 3 go a;`, named(w, retry(3, "a")))
		reads(t, w+`: done;`, named(w, done()))
		reads(t, w+`: fail;`, named(w, failed()))
		reads(t, `done; `+w+`: fail;`, done(), from(6, named(w, failed())))
		reads(t, `go `+w+`;`, jump(w))
		reads(t, `try 3 go `+w+`;`, retry(3, w))
		reads(t, `expect "x" go `+w+` after 5 go b;`, awaits(5, "b", Arm{"x", w}))
		reads(t, `expect "x" go a after 5 go `+w+`;`, awaits(5, w, Arm{"x", "a"}))
		reads(t, `expect "x" go `+w+`, "y" go a after 5 go b;`, awaits(5, "b", Arm{"x", w}, Arm{"y", "a"}))
		// There is one label at most, and a step behind it.
		fails(t, w+`:`, api.ErrParse, n+1)
		fails(t, w+`: ;`, api.ErrParse, n+2)
		fails(t, w+`: : done;`, api.ErrParse, n+2)
		fails(t, w+`: "done";`, api.ErrParse, n+2)
		if slices.Contains(kinds, w) {
			fails(t, `a: `+w+`: done;`, api.ErrParse, n+3)
		} else {
			fails(t, `a: `+w+`: done;`, api.ErrName, 3)
			fails(t, w+`;`, api.ErrName, 0)
			fails(t, w, api.ErrName, 0)
		}
	}
}

// P17.2: spaces, tabs, line feeds and comments may be between tokens, or nothing, where a token ends anyway; At is where a step begins, with its label.
func TestParseBetween(t *testing.T) {
	want := []Step{named("a", send("x")), awaits(5, "a", Arm{"=> ", "b"}, Arm{"y", "a"}), named("b", retry(3, "a")), done()}
	// An @ stands ahead of each byte with which a step begins.
	for _, marked := range []string{
		`@a: send "x"; @expect "=> " go b, "y" go a after 5 go a; @b: try 3 go a; @done;`,
		`@a:send"x";@expect"=> "go b,"y"go a after 5 go a;@b:try 3 go a;@done;`,
		"\n\t@a\n:\tsend\n\"x\"\n;\n\n@expect\n\"=> \"\ngo\nb\n,\n\"y\"\tgo\ta\tafter\t5\tgo\ta\t;  @b  :  try  3  go  a  ;  @done  ;  ",
		"# c:\n@a#:\n:#x\nsend#\n\"x\"#\n;# done;\n@expect#\n\"=> \"#\ngo#\nb#\n,#\n\"y\"#\ngo#\na#\nafter#\n5#\ngo#\na#\n;#\n@b#\n:#\ntry#\n3#\ngo#\na#\n;#\n@done#\n;# the end",
	} {
		parts := strings.Split(marked, "@")
		at := 0
		for k := range want {
			at += len(parts[k])
			want[k].At = at
		}
		reads(t, strings.Join(parts, ""), want...)
	}
	for _, s := range []string{"", " ", "\n", "\t", "# x", "# x\n", " #\n\n# done;\n", strings.Repeat(" ", 4096)} {
		reads(t, s)
	}
}

// P17.2: what is wrong, and where, worked out by hand.
func TestParseWrong(t *testing.T) {
	for s, want := range map[string]api.Fault{
		// Ahead of a kind.
		`x`:              {No: api.ErrName, At: 0},
		`  x`:            {No: api.ErrName, At: 2},
		`wait;`:          {No: api.ErrName, At: 0},
		`goto a;`:        {No: api.ErrName, At: 0},
		`sen "x";`:       {No: api.ErrName, At: 0},
		`after 5;`:       {No: api.ErrName, At: 0},
		`x x: done`:      {No: api.ErrName, At: 0},
		`x "`:            {No: api.ErrLex, At: 2},
		`"done";`:        {No: api.ErrParse, At: 0},
		`7`:              {No: api.ErrParse, At: 0},
		`7: done;`:       {No: api.ErrParse, At: 0},
		`"a":done;`:      {No: api.ErrParse, At: 0},
		`;`:              {No: api.ErrParse, At: 0},
		`:`:              {No: api.ErrParse, At: 0},
		`: done;`:        {No: api.ErrParse, At: 0},
		`, done;`:        {No: api.ErrParse, At: 0},
		`{`:              {No: api.ErrParse, At: 0},
		`}`:              {No: api.ErrParse, At: 0},
		`a: wait;`:       {No: api.ErrName, At: 3},
		`a: a;`:          {No: api.ErrName, At: 3},
		`a: 7;`:          {No: api.ErrParse, At: 3},
		`a: `:            {No: api.ErrParse, At: 3},
		`a, done;`:       {No: api.ErrName, At: 0},
		`a ":" done;`:    {No: api.ErrName, At: 0},
		`done ":" done;`: {No: api.ErrParse, At: 5},
		`send ":" done;`: {No: api.ErrParse, At: 9},
		`"a" : done;`:    {No: api.ErrParse, At: 0},
		`7 : done;`:      {No: api.ErrParse, At: 0},
		`; : done;`:      {No: api.ErrParse, At: 0},
		`a; done;`:       {No: api.ErrName, At: 0},
		// Send.
		`send`:             {No: api.ErrParse, At: 4},
		`send  `:           {No: api.ErrParse, At: 6},
		`send;`:            {No: api.ErrParse, At: 4},
		`send x;`:          {No: api.ErrParse, At: 5},
		`send 7;`:          {No: api.ErrParse, At: 5},
		`send send "x";`:   {No: api.ErrParse, At: 5},
		`send "x"`:         {No: api.ErrParse, At: 8},
		`send "x",`:        {No: api.ErrParse, At: 8},
		`send "x":`:        {No: api.ErrParse, At: 8},
		`send "x" "y";`:    {No: api.ErrParse, At: 9},
		`send "x" done;`:   {No: api.ErrParse, At: 9},
		`send "x" a:done;`: {No: api.ErrParse, At: 9},
		`send "x" ";"`:     {No: api.ErrParse, At: 9},
		`send "x";;`:       {No: api.ErrParse, At: 9},
		// Expect.
		`expect`:                          {No: api.ErrParse, At: 6},
		`expect;`:                         {No: api.ErrParse, At: 6},
		`expect after 1 go a;`:            {No: api.ErrParse, At: 7},
		`expect go b after 1 go a;`:       {No: api.ErrParse, At: 7},
		`expect , "x" go a after 1 go a;`: {No: api.ErrParse, At: 7},
		`expect x go a after 1 go a;`:     {No: api.ErrParse, At: 7},
		`expect 7`:                        {No: api.ErrParse, At: 7},
		`expect "x"`:                      {No: api.ErrParse, At: 10},
		`expect "x" b`:                    {No: api.ErrParse, At: 11},
		`expect "x" "go"`:                 {No: api.ErrParse, At: 11},
		`expect "x" goto`:                 {No: api.ErrParse, At: 11},
		`expect "x" after`:                {No: api.ErrParse, At: 11},
		`expect "x", "y" go a`:            {No: api.ErrParse, At: 10},
		`expect "x" go`:                   {No: api.ErrParse, At: 13},
		`expect "x" go "b"`:               {No: api.ErrParse, At: 14},
		`expect "x" go 7`:                 {No: api.ErrParse, At: 14},
		`expect "x" go, "y" go a`:         {No: api.ErrParse, At: 13},
		`expect "x" go b`:                 {No: api.ErrParse, At: 15},
		`expect "x" go b;`:                {No: api.ErrParse, At: 15},
		`expect "x" go b: done`:           {No: api.ErrParse, At: 15},
		`expect "x" go b c`:               {No: api.ErrParse, At: 16},
		`expect "x" go b "after"`:         {No: api.ErrParse, At: 16},
		`expect "x" go b "y" go c`:        {No: api.ErrParse, At: 16},
		`expect "x" go b go c`:            {No: api.ErrParse, At: 16},
		`expect "x" go b,`:                {No: api.ErrParse, At: 16},
		`expect "x" go b, after`:          {No: api.ErrParse, At: 17},
		`expect "x" go b,, "y"`:           {No: api.ErrParse, At: 16},
		`expect "x" go b "," "y"`:         {No: api.ErrParse, At: 16},
		`expect "x" go b, "y"`:            {No: api.ErrParse, At: 20},
		`expect "x" go b, "y" go c; done`: {No: api.ErrParse, At: 25},
		`expect "x" go b after`:           {No: api.ErrParse, At: 21},
		`expect "x" go b after go c;`:     {No: api.ErrParse, At: 22},
		`expect "x" go b after "5"`:       {No: api.ErrParse, At: 22},
		`expect "x" go b after a`:         {No: api.ErrParse, At: 22},
		`expect "x" go b after, 5`:        {No: api.ErrParse, At: 21},
		`expect "x" go b after 0`:         {No: api.ErrRange, At: 22},
		`expect "x" go b after 100 ;`:     {No: api.ErrRange, At: 22},
		`expect "x" go b after 0x64 $`:    {No: api.ErrLex, At: 27},
		`expect "x" go b after 5`:         {No: api.ErrParse, At: 23},
		`expect "x" go b after 5;`:        {No: api.ErrParse, At: 23},
		`expect "x" go b after 5 c;`:      {No: api.ErrParse, At: 24},
		`expect "x" go b after 5 "go"`:    {No: api.ErrParse, At: 24},
		`expect "x" go b after 5 6`:       {No: api.ErrParse, At: 24},
		`expect "x" go b after 5 go`:      {No: api.ErrParse, At: 26},
		`expect "x" go b after 5 go;`:     {No: api.ErrParse, At: 26},
		`expect "x" go b after 5 go 7`:    {No: api.ErrParse, At: 27},
		`expect "x" go b after 5 go "c"`:  {No: api.ErrParse, At: 27},
		`expect "x" go b after 5 go c`:    {No: api.ErrParse, At: 28},
		`expect "x" go b after 5 go c,`:   {No: api.ErrParse, At: 28},
		`expect "x" go b after 5 go c d`:  {No: api.ErrParse, At: 29},
		// Goto.
		`go`:          {No: api.ErrParse, At: 2},
		`go;`:         {No: api.ErrParse, At: 2},
		`go "a";`:     {No: api.ErrParse, At: 3},
		`go 7;`:       {No: api.ErrParse, At: 3},
		`go a`:        {No: api.ErrParse, At: 4},
		`go a b;`:     {No: api.ErrParse, At: 5},
		`go a, b;`:    {No: api.ErrParse, At: 4},
		`go a: done;`: {No: api.ErrParse, At: 4},
		`go go a;`:    {No: api.ErrParse, At: 6},
		// Try.
		`try`:              {No: api.ErrParse, At: 3},
		`try;`:             {No: api.ErrParse, At: 3},
		`try go a;`:        {No: api.ErrParse, At: 4},
		`try "3" go a;`:    {No: api.ErrParse, At: 4},
		`try a;`:           {No: api.ErrParse, At: 4},
		`try 0`:            {No: api.ErrRange, At: 4},
		`try 10 go a;`:     {No: api.ErrRange, At: 4},
		`try 99 100;`:      {No: api.ErrRange, At: 4},
		`try 3`:            {No: api.ErrParse, At: 5},
		`try 3;`:           {No: api.ErrParse, At: 5},
		`try 3 a;`:         {No: api.ErrParse, At: 6},
		`try 3 "go" a;`:    {No: api.ErrParse, At: 6},
		`try 3 4`:          {No: api.ErrParse, At: 6},
		`try 3 go`:         {No: api.ErrParse, At: 8},
		`try 3 go;`:        {No: api.ErrParse, At: 8},
		`try 3 go 4;`:      {No: api.ErrParse, At: 9},
		`try 3 go "a";`:    {No: api.ErrParse, At: 9},
		`try 3 go a`:       {No: api.ErrParse, At: 10},
		`try 3 go a 4`:     {No: api.ErrParse, At: 11},
		`try 3 go a after`: {No: api.ErrParse, At: 11},
		// Done and Fail.
		`done`:           {No: api.ErrParse, At: 4},
		`done  # ;`:      {No: api.ErrParse, At: 9},
		`done "x";`:      {No: api.ErrParse, At: 5},
		`done 7;`:        {No: api.ErrParse, At: 5},
		`done done;`:     {No: api.ErrParse, At: 5},
		`done a: done;`:  {No: api.ErrParse, At: 5},
		`done,`:          {No: api.ErrParse, At: 4},
		`done};`:         {No: api.ErrParse, At: 4},
		`done;;`:         {No: api.ErrParse, At: 5},
		`done; : done;`:  {No: api.ErrParse, At: 6},
		`fail`:           {No: api.ErrParse, At: 4},
		`fail a;`:        {No: api.ErrParse, At: 5},
		`fail fail;`:     {No: api.ErrParse, At: 5},
		`fail; x; fail;`: {No: api.ErrName, At: 6},
		// Of several errors the first one in the order of the tokens.
		`try 0 a x: y;`:                     {No: api.ErrRange, At: 4},
		`send x; try 0 go a;`:               {No: api.ErrParse, At: 5},
		`wait; try 0 go a;`:                 {No: api.ErrName, At: 0},
		`try 0 go a; wait; send`:            {No: api.ErrRange, At: 4},
		`expect "x" b after 0 go c; wait`:   {No: api.ErrParse, At: 11},
		`expect "x" go b after 0 c; wait`:   {No: api.ErrRange, At: 22},
		`a: b: try 0 go a`:                  {No: api.ErrName, At: 3},
		`a: send: try 0 go a`:               {No: api.ErrParse, At: 7},
		`expect "x" go b, x go c after 0`:   {No: api.ErrParse, At: 17},
		`try wait 0`:                        {No: api.ErrParse, At: 4},
		`expect "x" go b after 100 go c; x`: {No: api.ErrRange, At: 22},
	} {
		fails(t, s, want.No, want.At)
		before := "z: expect \"x\" go z, \"y\" go a after 0x63 go z;\n# and\n"
		fails(t, before+s, want.No, len(before)+want.At)
		fails(t, before+before+s, want.No, 2*len(before)+want.At)
	}
}

// P17.2: the error of Cut comes before those of the tokens, wherever it is.
func TestParseCut(t *testing.T) {
	const good = `a: expect "x" go b after 5 go a;`
	for s, want := range map[string]api.Fault{
		`$`:                    {No: api.ErrLex, At: 0},
		`x $`:                  {No: api.ErrLex, At: 2},
		`; = ;`:                {No: api.ErrLex, At: 2},
		`try 0 go 01`:          {No: api.ErrLex, At: 9},
		`send "\t";`:           {No: api.ErrLex, At: 5},
		`send "x`:              {No: api.ErrLex, At: 5},
		`Send "x";`:            {No: api.ErrLex, At: 0},
		`A: done;`:             {No: api.ErrLex, At: 0},
		`try -1 go a;`:         {No: api.ErrLex, At: 4},
		`try 03 go a;`:         {No: api.ErrLex, At: 4},
		`try 4294967296 go a;`: {No: api.ErrLex, At: 4},
		`try 3go a;`:           {No: api.ErrLex, At: 4},
		`done; done $`:         {No: api.ErrLex, At: 11},
		good + ` x .`:          {No: api.ErrLex, At: 35},
		good + good + "\r":     {No: api.ErrLex, At: 64},
		good + "\x00":          {No: api.ErrLex, At: 32},
	} {
		fails(t, s, want.No, want.At)
	}
}

// P17.2: a text has up to 4096 bytes, and as many steps and arms as there is room for.
func TestParseLong(t *testing.T) {
	lots := func(n int) []Step {
		var ss []Step
		for k := range n {
			ss = append(ss, from(5*k, done()))
		}
		return ss
	}
	for _, n := range []int{2, 63, 64, 65, 256, 257, 819} {
		reads(t, strings.Repeat("done;", n), lots(n)...)
	}
	all := strings.Repeat("done;", 819) + " "
	reads(t, all, lots(819)...)
	fails(t, all+" ", api.ErrLimit, 0)
	fails(t, all[:4095]+"x", api.ErrName, 4095)
	fails(t, all[:4095]+";", api.ErrParse, 4095)
	fails(t, all[:4095]+"$", api.ErrLex, 4095)
	fails(t, all[:4094], api.ErrParse, 4094)
	fails(t, strings.Repeat("$", 4097), api.ErrLimit, 0)
	fails(t, strings.Repeat("x", 4096), api.ErrName, 0)
	fails(t, strings.Repeat("a:", 2048), api.ErrName, 2)
	fails(t, strings.Repeat(";", 1<<20), api.ErrLimit, 0)
	fails(t, "done;"+strings.Repeat(" ", 4000)+"by", api.ErrName, 4005)
	const arm = `,""go a`
	n := (4096 - len(`expect""go a after 1 go a;`)) / len(arm)
	reads(t, `expect""go a`+strings.Repeat(arm, n)+` after 1 go a;`, awaits(1, "a", slices.Repeat([]Arm{{"", "a"}}, n+1)...))
	fails(t, `expect""go a`+strings.Repeat(arm, n)+` after 0 go a;`, api.ErrRange, len(`expect""go a after `)+n*len(arm))
}

// letter stands for the sort of a token: a letter for each word that means something, w for any other, q for a String, and 1, 2 or 0 for a Number from 1 to 9, from 10 to 99, or any other.
func letter(part string) string {
	switch c := part[0]; {
	case c == '"':
		return "q"
	case c >= '0' && c <= '9':
		n, err := strconv.ParseInt(part, 0, 64)
		switch {
		case err != nil:
			panic(err)
		case n >= 1 && n <= 9:
			return "1"
		case n >= 10 && n <= 99:
			return "2"
		}
		return "0"
	case c < 'a' || c > 'z':
		return part
	}
	switch part {
	case "send", "expect", "go", "try", "done", "fail", "after":
		return part[:1]
	}
	return "w"
}

// What a dialogue is in letters, by the words of P17.2.
const (
	anyWord = `[segtdfaw]`
	aLabel  = `(?:(` + anyWord + `):)?`
	aStep   = aLabel + `(?:(s)q|(e)qg` + anyWord + `(?:,qg` + anyWord + `)*a[12]g` + anyWord + `|(g)` + anyWord + `|(t)1g` + anyWord + `|(d)|(f));`
)

var (
	oneStep = regexp.MustCompile(aStep)
	whole   = regexp.MustCompile(`^(?:` + aStep + `)*$`)
	kindDue = regexp.MustCompile(`^(?:` + aStep + `)*` + aLabel + `$`)
)

// known are the answers of can.
var known = map[string]bool{}

// can tells whether a dialogue can begin with these letters: whether one of the ends that steps have makes it a dialogue.
func can(letters string) bool {
	answer, ok := known[letters]
	if !ok {
		for _, end := range []string{"", ":d;", "d;", ";", "q;", "w;", "qgwa1gw;", "gwa1gw;", "wa1gw;", "a1gw;", "1gw;", "gw;"} {
			answer = answer || whole.MatchString(letters+end)
		}
		known[letters] = answer
	}
	return answer
}

// judge is what P17.2 says of a text that consists of tokens that begin at these places.
func judge(parts []string, places []int, length int) ([]Step, error) {
	letters := ""
	for k, part := range parts {
		got := letter(part)
		labels := k+1 < len(parts) && parts[k+1] == ":" && whole.MatchString(letters)
		switch {
		case strings.Contains("012", got) && !can(letters+got) && can(letters+"1"):
			return nil, api.Wrap(api.ErrRange, places[k])
		case strings.Contains("aw", got) && !labels && kindDue.MatchString(letters):
			return nil, api.Wrap(api.ErrName, places[k])
		case !can(letters + got):
			return nil, api.Wrap(api.ErrParse, places[k])
		}
		letters += got
	}
	if !whole.MatchString(letters) {
		return nil, api.Wrap(api.ErrParse, length)
	}
	var ss []Step
	for _, found := range oneStep.FindAllStringSubmatchIndex(letters, -1) {
		ss = append(ss, from(places[found[0]], built(parts[found[0]:found[1]], found)))
	}
	return ss, nil
}

// built is the step of its tokens, if these of the pattern's parts were found.
func built(parts []string, found []int) Step {
	label := ""
	if found[2] >= 0 {
		label, parts = parts[0], parts[2:]
	}
	kind := Kind(0)
	for found[4+2*kind] < 0 {
		kind++
	}
	last := len(parts) - 1
	s := Step{Label: label, Kind: kind}
	switch kind {
	case Send:
		s.Text = unquoted(parts[1])
	case Expect:
		for k := 0; parts[k] != "after"; k += 4 {
			s.Arms = append(s.Arms, Arm{unquoted(parts[k+1]), parts[k+3]})
		}
		s.N, s.To = numbered(parts[last-3]), parts[last-1]
	case Goto:
		s.To = parts[last-1]
	case Try:
		s.N, s.To = numbered(parts[1]), parts[last-1]
	}
	return s
}

// unquoted is what a String denotes.
func unquoted(part string) string {
	s, err := strconv.Unquote(part)
	if err != nil {
		panic(err)
	}
	return s
}

// numbered is the value of a Number.
func numbered(part string) int {
	n, err := strconv.ParseInt(part, 0, 64)
	if err != nil {
		panic(err)
	}
	return int(n)
}

// agree lays tokens one behind the other, with something between, and holds Parse against the judge.
func agree(t *testing.T, parts []string, between func() string) error {
	t.Helper()
	text, places := between(), []int(nil)
	for _, part := range parts {
		places = append(places, len(text))
		text += part + between()
	}
	want, fault := judge(parts, places, len(text))
	if got, err := Parse(text); err != fault || !slices.EqualFunc(got, want, same) {
		t.Fatalf("%q: %v, %v, not %v, %v", text, got, err, want, fault)
	}
	return fault
}

// space is what stands between tokens at least.
func space() string { return " " }

// others are tokens of all sorts.
var others = []string{"send", "expect", "go", "try", "done", "fail", "after", "x", "sends", "a-t", `"a"`, `""`, `"go"`, `";"`, `":"`, `","`, `"after"`, "0", "1", "9", "10", "0x63", "100", "4294967295", ";", ":", ",", "{", "}"}

// few are tokens of all sorts, one of each.
var few = []string{"send", "expect", "go", "try", "done", "after", "x", `"a"`, "0", "5", "10", ";", ":", ",", "}"}

// steps are the tokens of steps of each kind.
func steps() [][]string {
	return [][]string{
		{"send", `"x"`, ";"},
		{"a", ":", "send", `"\r"`, ";"},
		{"expect", `"x"`, "go", "b", "after", "5", "go", "c", ";"},
		{"b", ":", "expect", `"x"`, "go", "b", ",", `"y"`, "go", "c", "after", "50", "go", "d", ";"},
		{"expect", `"x"`, "go", "after", ",", `"y"`, "go", "go", ",", `"z"`, "go", "x", "after", "0x10", "go", "after", ";"},
		{"go", "a", ";"},
		{"go", ":", "go", "go", ";"},
		{"try", "3", "go", "a", ";"},
		{"c", ":", "try", "9", "go", "try", ";"},
		{"done", ";"},
		{"d", ":", "done", ";"},
		{"fail", ";"},
		{"send", ":", "fail", ";"},
	}
}

// altered holds Parse against the judge for tokens of which one is another one, is missing, or has another one ahead of it, or two are exchanged; each begin of it, too.
func altered(t *testing.T, parts []string, news []string) {
	t.Helper()
	agree(t, parts, space)
	for k := range parts {
		agree(t, parts[:k], space)
		agree(t, slices.Delete(slices.Clone(parts), k, k+1), space)
		for _, other := range news {
			turned := slices.Clone(parts)
			turned[k] = other
			agree(t, turned, space)
			agree(t, turned[:k+1], space)
			agree(t, slices.Insert(slices.Clone(parts), k, other), space)
		}
		for j := range k {
			turned := slices.Clone(parts)
			turned[k], turned[j] = turned[j], turned[k]
			agree(t, turned, space)
		}
	}
	for _, other := range news {
		agree(t, append(slices.Clone(parts), other), space)
	}
}

// P17.2: every two steps, with each token altered.
func TestParseEveryToken(t *testing.T) {
	for _, one := range steps() {
		altered(t, one, others)
		for _, two := range steps() {
			altered(t, append(slices.Clone(one), two...), few)
		}
	}
	altered(t, slices.Concat(steps()...), few)
}

// P17.2: every sequence of up to four tokens, alone, behind a label, and behind a part of a step.
func TestParseSmall(t *testing.T) {
	begins := [][]string{nil, {"a", ":"}, {"expect", `"x"`}, {"expect", `"x"`, "go", "b"}, {"expect", `"x"`, "go", "b", "after", "5"}, {"try", "3"}}
	for _, begin := range begins {
		for _, a := range few {
			agree(t, append(slices.Clone(begin), a), space)
			for _, b := range few {
				agree(t, append(slices.Clone(begin), a, b), space)
				for _, c := range few {
					agree(t, append(slices.Clone(begin), a, b, c), space)
				}
			}
		}
	}
	for k := range len(few) * len(few) * len(few) * len(few) {
		n := len(few)
		agree(t, []string{few[k%n], few[k/n%n], few[k/n/n%n], few[k/n/n/n]}, space)
	}
}

// P17.2: dialogues by chance, with spaces and comments by chance, of which some are wrong in a token or two.
func TestParseChance(t *testing.T) {
	r := rand.New(rand.NewSource(172))
	between := func() string {
		return []string{" ", "  ", "\n", "\t", "\n\n", " # x\n", "#\n", "# \"; go x\n ", "#$\n"}[r.Intn(9)]
	}
	pick := func(from ...string) string { return from[r.Intn(len(from))] }
	word := func() string {
		return pick("a", "b", "c", "x-1", "send", "expect", "go", "try", "done", "fail", "after")
	}
	text := func() string { return pick(`"a"`, `""`, `"=> "`, `"\"\\\r\n"`, `"go"`, `"# ;"`, `"n[0-9]+"`) }
	step := func() []string {
		var parts []string
		if r.Intn(2) == 0 {
			parts = append(parts, word(), ":")
		}
		switch r.Intn(6) {
		case 0:
			parts = append(parts, "send", text())
		case 1:
			parts = append(parts, "expect", text(), "go", word())
			for range r.Intn(4) {
				parts = append(parts, ",", text(), "go", word())
			}
			parts = append(parts, "after", pick("1", "5", "10", "99", "0x1", "0x63", "50"), "go", word())
		case 2:
			parts = append(parts, "go", word())
		case 3:
			parts = append(parts, "try", pick("1", "2", "9", "0x1", "0x9"), "go", word())
		case 4:
			parts = append(parts, "done")
		case 5:
			parts = append(parts, "fail")
		}
		return append(parts, ";")
	}
	found := map[api.Errno]int{}
	for range 12000 {
		var parts []string
		for range r.Intn(5) {
			parts = append(parts, step()...)
		}
		agree(t, parts, between)
		if len(parts) > 0 {
			parts[r.Intn(len(parts))] = pick(others...)
			found[api.Number(agree(t, parts, between))]++
			agree(t, parts[:r.Intn(len(parts))], between)
			parts[r.Intn(len(parts))] = pick(others...)
			found[api.Number(agree(t, parts, between))]++
		}
	}
	for _, no := range []api.Errno{0, api.ErrParse, api.ErrName, api.ErrRange} {
		if found[no] < 100 {
			t.Error(no, found)
		}
	}
}

// P17.1, P17.2: a dialogue is parsed as what it was formatted from, if a text can tell it.
func TestBack(t *testing.T) {
	r := rand.New(rand.NewSource(171))
	pick := func(from ...string) string { return from[r.Intn(len(from))] }
	word := func() string { return pick(append([]string{"a", "b", "x-1", "after", "z9--"}, kinds...)...) }
	text := func() string {
		return pick("", "x", "=> ", "\r", "\n", "\"", "\\", "a\\\"b", "# ;", "n[0-9]+", strings.Repeat("n", 64))
	}
	for range 20000 {
		var ss []Step
		for range r.Intn(8) {
			s := Step{Kind: Kind(r.Intn(6)), At: len(Text(ss))}
			if r.Intn(2) == 0 {
				s.Label = word()
			}
			switch s.Kind {
			case Send:
				s.Text = text()
			case Expect:
				for range 1 + r.Intn(4) {
					s.Arms = append(s.Arms, Arm{text(), word()})
				}
				s.N, s.To = 1+r.Intn(99), word()
			case Goto:
				s.To = word()
			case Try:
				s.N, s.To = 1+r.Intn(9), word()
			}
			ss = append(ss, s)
		}
		reads(t, Text(ss), ss...)
	}
	// What no text can tell: a String or a Word is missing, or is none, or a number is none or out of its range.
	fails(t, Text([]Step{send("\x00")}), api.ErrParse, 5)
	fails(t, Text([]Step{awaits(5, "a", Arm{"\t", "b"})}), api.ErrParse, 8)
	fails(t, Text([]Step{awaits(5, "a")}), api.ErrParse, 8)
	fails(t, Text([]Step{awaits(-5, "a", Arm{"x", "b"})}), api.ErrLex, 22)
	fails(t, Text([]Step{awaits(100, "a", Arm{"x", "b"})}), api.ErrRange, 22)
	fails(t, Text([]Step{retry(0, "a")}), api.ErrRange, 4)
	fails(t, Text([]Step{jump("")}), api.ErrParse, 3)
	fails(t, Text([]Step{named("A", done())}), api.ErrLex, 0)
	reads(t, Text([]Step{{Kind: -1, Text: "x"}}), send("x"))
	reads(t, Text([]Step{{Kind: 6, Text: "x"}}), failed())
}

// P17.3: the first step with a label.
func TestFind(t *testing.T) {
	ss := []Step{named("a", done()), send("b"), named("b", jump("a")), named("A B", done()), named("b", done()), jump("c"), named("\x00", done()), awaits(5, "d", Arm{"e", "f"}), named("go", Step{Kind: -7}), named("ab", Step{Kind: 7})}
	for label, want := range map[string]int{"a": 0, "b": 2, "A B": 3, "\x00": 6, "go": 8, "ab": 9, "": -1, "c": -1, "d": -1, "e": -1, "f": -1, "B": -1, "A": -1, "a ": -1, "b:": -1, "abc": -1, "\x00\x00": -1} {
		if got := Find(ss, label); got != want {
			t.Errorf("%q: %v, not %v", label, got, want)
		}
	}
	for _, label := range []string{"", "a", "b"} {
		if Find(nil, label) != -1 || Find([]Step{}, label) != -1 || Find([]Step{{}}, label) != -1 || Find(ss[3:4], label) != -1 {
			t.Errorf("%q", label)
		}
	}
	long := slices.Repeat([]Step{named("a", done()), {}}, 50000)
	long = append(long, named("b", done()), named("b", done()))
	if Find(long, "a") != 0 || Find(long, "b") != 100000 || Find(long, "c") != -1 || Find(long, "") != -1 {
		t.Error(Find(long, "a"), Find(long, "b"), Find(long, "c"), Find(long, ""))
	}
}

// checks expects a result of Check: the Errno itself, or nil.
func checks(t *testing.T, ss []Step, k int, want error) {
	t.Helper()
	if got, err := Check(ss); got != k || err != want {
		t.Errorf("%.500s: %v, %v, not %v, %v", Text(ss), got, err, k, want)
	}
}

// P17.3: the number of steps comes first.
func TestCheckLimit(t *testing.T) {
	checks(t, nil, -1, api.ErrLimit)
	checks(t, []Step{}, -1, api.ErrLimit)
	for n := 1; n <= 64; n++ {
		checks(t, make([]Step, n), 0, nil)
		checks(t, slices.Repeat([]Step{jump("a")}, n), 0, api.ErrName)
	}
	for _, n := range []int{65, 66, 100, 128, 255, 256, 257, 320, 1<<16 + 1} {
		checks(t, make([]Step, n), -1, api.ErrLimit)
		checks(t, slices.Repeat([]Step{jump("a")}, n), -1, api.ErrLimit)
		checks(t, slices.Repeat([]Step{named("a", done())}, n), -1, api.ErrLimit)
	}
}

// P17.3: dialogues without an error.
func TestCheckGood(t *testing.T) {
	for _, ss := range [][]Step{
		{named("a", send("\r")), awaits(5, "a", Arm{"=> ", "b"}), named("b", done())},
		{done()}, {failed()}, {send("")}, {done(), done(), done()},
		{named("a", jump("a"))}, {named("a", retry(3, "a"))}, {named("a", awaits(5, "a", Arm{"x", "a"}))},
		{jump("z"), retry(1, "z"), awaits(1, "z", Arm{"x", "z"}, Arm{"x", "z"}), named("z", done())},
		{named("a", done()), named("A", done()), named("aa", done()), named("a ", jump("A")), named("\x00", jump("a ")), named("go", jump("\x00"))},
		// Neither the numbers nor the texts matter here, nor At.
		{from(-7, send("\x00")), named("a", retry(0, "a")), retry(-1, "a"), retry(math.MaxInt, "a"), awaits(0, "a", Arm{"\xff", "a"}), awaits(math.MinInt, "a", Arm{"x", "a"})},
		// What a kind does not have does not matter, either.
		{Step{Kind: Send, To: "z"}, Step{Kind: Done, To: "z"}, Step{Kind: Fail, To: "z"}, Step{Kind: -1, To: "z"}, Step{Kind: 6, To: "z"}, Step{Kind: math.MinInt, To: "z"}, Step{Kind: math.MaxInt, To: "z"}},
		{Step{Kind: Send, Arms: []Arm{{"(", "z"}}}, Step{Kind: Done, Arms: []Arm{{"(", "z"}}}, Step{Kind: Fail, Arms: []Arm{{"(", "z"}}}, Step{Kind: -1, Arms: []Arm{{"(", "z"}}}, Step{Kind: 6, Arms: []Arm{{"(", "z"}}}},
		{Step{Label: "a", Kind: Goto, To: "a", Arms: []Arm{{"(", "z"}}}, Step{Kind: Try, To: "a", Arms: []Arm{{"(", "z"}, {"", ""}}}},
		slices.Repeat([]Step{{}}, 64),
	} {
		checks(t, ss, 0, nil)
	}
	// 64 steps with labels, of which each one leads to all the others.
	var ss []Step
	for k := range 64 {
		s := named("s"+strconv.Itoa(k), awaits(1, "s"+strconv.Itoa(63-k)))
		for j := range 8 {
			s.Arms = append(s.Arms, Arm{"x", "s" + strconv.Itoa((k+9*j)%64)})
		}
		ss = append(ss, s)
	}
	checks(t, ss, 0, nil)
}

// P17.3: a label that an earlier step has, anywhere ahead of it.
func TestCheckTwice(t *testing.T) {
	for _, label := range []string{"a", "go", " ", "\x00", "A;", strings.Repeat("n", 5000)} {
		for n := 2; n <= 9; n++ {
			for k := range n {
				for j := range k {
					ss := make([]Step, n)
					ss[j].Label, ss[k].Label = label, strings.Clone(label)
					checks(t, ss, k, api.ErrTwice)
				}
			}
		}
	}
	// Three times: the second one is the first with an error.
	checks(t, []Step{named("a", done()), done(), named("a", done()), named("a", done())}, 2, api.ErrTwice)
	// The first and the last of as many steps as there may be.
	ss := make([]Step, 64)
	ss[0].Label, ss[63].Label = "a", "a"
	checks(t, ss, 63, api.ErrTwice)
	ss[63].Label = "b"
	checks(t, ss, 0, nil)
}

// patternErrors are patterns that can't be waited for, and why.
func patternErrors() map[string]error {
	return map[string]error{
		"": api.ErrPattern, "x*": api.ErrPattern, "a?": api.ErrPattern, "(": api.ErrPattern, ")": api.ErrPattern, "*": api.ErrPattern, "[": api.ErrPattern, "[b-a]": api.ErrPattern, `a\`: api.ErrPattern, "a|": api.ErrPattern, "(a": api.ErrPattern,
		strings.Repeat("a", 65): api.ErrLimit, strings.Repeat("(", 65): api.ErrLimit, strings.Repeat("(", 7) + "a" + strings.Repeat(")", 7): api.ErrPattern,
	}
}

// goodPatterns are patterns that can be waited for.
func goodPatterns() []string {
	return []string{"x", "=> ", "n[0-9]", "a+", "a|b", `\.`, ".", "x*y", strings.Repeat("a", 64), strings.Repeat("(", 6) + "a" + strings.Repeat(")", 6), "\x00"}
}

// P17.3: the patterns of an Expect, of which the first wrong one counts, and how many there are.
func TestCheckPatterns(t *testing.T) {
	with := func(patterns ...string) []Step {
		s := named("a", awaits(5, "a"))
		for _, p := range patterns {
			s.Arms = append(s.Arms, Arm{p, "a"})
		}
		return []Step{done(), s, failed()}
	}
	for n := range 12 {
		for _, p := range goodPatterns() {
			ss := with(slices.Repeat([]string{p}, n)...)
			if n >= 1 && n <= 8 {
				checks(t, ss, 0, nil)
			} else {
				checks(t, ss, 1, api.ErrLimit)
			}
		}
	}
	checks(t, with(slices.Repeat([]string{"x"}, 20000)...), 1, api.ErrLimit)
	for wrong, want := range patternErrors() {
		for n := 1; n <= 8; n++ {
			for k := range n {
				patterns := slices.Repeat([]string{"x"}, n)
				patterns[k] = wrong
				checks(t, with(patterns...), 1, want)
			}
		}
		for other, wanted := range patternErrors() {
			checks(t, with("x", wrong, other), 1, want)
			checks(t, with(other, "x", wrong), 1, wanted)
		}
		// Too many come first.
		checks(t, with(slices.Repeat([]string{wrong}, 9)...), 1, api.ErrLimit)
	}
}

// P17.3: a target that is no step's label.
func TestCheckName(t *testing.T) {
	for _, to := range []string{"", "z", "A", "a ", "aa", "b", "x", "\x00", "c"} {
		for _, s := range []Step{jump(to), retry(3, to), awaits(5, to, Arm{"x", "a"}), awaits(5, "a", Arm{"x", to}), awaits(5, "a", Arm{"x", "a"}, Arm{"b", to}), awaits(5, "a", Arm{"x", to}, Arm{"b", "a"}), awaits(5, "a", Arm{"x", "a"}, Arm{"b", to}, Arm{"c", "a"})} {
			for _, ss := range [][]Step{{named("a", done()), s, send("b")}, {send("b"), s, named("a", done())}, {send("c"), named("a", s), done()}} {
				checks(t, ss, 1, api.ErrName)
			}
			checks(t, []Step{s}, 0, api.ErrName)
			// The same beside the label that is missing.
			if to != "" {
				checks(t, []Step{named("a", done()), s, named(to, done())}, 0, nil)
				checks(t, []Step{named(to, done()), named("a", done()), s}, 0, nil)
			} else {
				checks(t, []Step{named("a", done()), s, named(to, done())}, 1, api.ErrName)
			}
		}
	}
	// Each arm of eight.
	for k := range 8 {
		s := awaits(5, "a", slices.Repeat([]Arm{{"x", "a"}}, 8)...)
		checks(t, []Step{named("a", done()), s}, 0, nil)
		s.Arms[k].To = "z"
		checks(t, []Step{named("a", done()), s}, 1, api.ErrName)
	}
}

// P17.3: of a step's errors the first one in the chapter's order, of several steps the first one.
func TestCheckOrder(t *testing.T) {
	for _, c := range []struct {
		s    Step
		want error
	}{
		{named("a", awaits(5, "z", Arm{"(", "z"})), api.ErrTwice},
		{named("a", awaits(5, "z")), api.ErrTwice},
		{named("a", awaits(5, "b", Arm{strings.Repeat("x", 65), "b"})), api.ErrTwice},
		{named("a", jump("z")), api.ErrTwice},
		{named("a", retry(3, "z")), api.ErrTwice},
		{named("a", done()), api.ErrTwice},
		{awaits(5, "z", Arm{"(", "z"}), api.ErrPattern},
		{awaits(5, "a", Arm{"x", "z"}, Arm{"x*", "a"}), api.ErrPattern},
		{awaits(5, "z", Arm{"x", "a"}, Arm{"x*", "a"}), api.ErrPattern},
		{awaits(5, "z"), api.ErrLimit},
		{awaits(5, "z", slices.Repeat([]Arm{{"", "z"}}, 9)...), api.ErrLimit},
		{awaits(5, "z", Arm{strings.Repeat("x", 65), "z"}), api.ErrLimit},
		{awaits(5, "z", Arm{"x", "a"}), api.ErrName},
		{named("c", jump("z")), api.ErrName},
	} {
		checks(t, []Step{named("a", done()), c.s}, 1, c.want)
		for _, behind := range []Step{named("a", done()), awaits(5, "a"), awaits(5, "a", Arm{"(", "a"}), jump("z"), {}} {
			checks(t, []Step{named("a", done()), c.s, behind, behind}, 1, c.want)
		}
		for _, ahead := range []struct {
			s    Step
			want error
		}{{named("a", send("x")), api.ErrTwice}, {awaits(5, "a"), api.ErrLimit}, {awaits(5, "a", Arm{"(", "a"}), api.ErrPattern}, {jump("z"), api.ErrName}} {
			checks(t, []Step{named("a", done()), ahead.s, c.s}, 1, ahead.want)
		}
	}
	// The second of two steps with one label has the error, also if the first one leads to it.
	checks(t, []Step{jump("a"), named("a", done()), named("a", done())}, 2, api.ErrTwice)
	checks(t, []Step{jump("b"), named("a", done()), named("a", done())}, 0, api.ErrName)
}

// verdict is what P17.3 says of a dialogue, by tables of the patterns that can and can't be waited for.
func verdict(ss []Step) (int, error) {
	if len(ss) < 1 || len(ss) > 64 {
		return -1, api.ErrLimit
	}
	labels := map[string]int{}
	for _, s := range ss {
		labels[s.Label]++
	}
	delete(labels, "")
	seen := map[string]int{}
	for k, s := range ss {
		seen[s.Label]++
		if s.Label != "" && seen[s.Label] > 1 {
			return k, api.ErrTwice
		}
		if s.Kind == 1 && (len(s.Arms) < 1 || len(s.Arms) > 8) {
			return k, api.ErrLimit
		}
		missing := s.Kind >= 1 && s.Kind <= 3 && labels[s.To] == 0
		for _, a := range s.Arms {
			if s.Kind == 1 && patternErrors()[a.Pattern] != nil {
				return k, patternErrors()[a.Pattern]
			}
			missing = missing || s.Kind == 1 && labels[a.To] == 0
		}
		if missing {
			return k, api.ErrName
		}
	}
	return 0, nil
}

// P17.3: dialogues by chance.
func TestCheckChance(t *testing.T) {
	r := rand.New(rand.NewSource(173))
	var bad []string
	for p := range patternErrors() {
		bad = append(bad, p)
	}
	slices.Sort(bad)
	good := []string{"x", "=> ", "n[0-9]", "a|b", "x*y"}
	label := func(n int) string { return "s" + strconv.Itoa(r.Intn(n)) }
	found := map[error]int{}
	for range 60000 {
		var ss []Step
		n := r.Intn(9)
		if r.Intn(50) == 0 {
			n = 60 + r.Intn(8)
		}
		for k := range n {
			s := Step{Kind: Kind(r.Intn(8) - 1), N: r.Intn(3), Label: "s" + strconv.Itoa(k), To: label(n)}
			for range 1 + r.Intn(3) {
				s.Arms = append(s.Arms, Arm{good[r.Intn(len(good))], label(n)})
			}
			switch r.Intn(40) {
			case 0:
				s.Label = label(n)
			case 1:
				s.Label = ""
			case 2:
				s.To = []string{"", "z"}[r.Intn(2)]
			case 3:
				s.Arms[r.Intn(len(s.Arms))].To = []string{"", "z"}[r.Intn(2)]
			case 4, 5:
				s.Arms[r.Intn(len(s.Arms))].Pattern = bad[r.Intn(len(bad))]
			case 6:
				s.Arms = slices.Repeat(s.Arms[:1], []int{0, 7, 8, 9}[r.Intn(4)])
			}
			ss = append(ss, s)
		}
		k, want := verdict(ss)
		if got, err := Check(ss); got != k || err != want {
			t.Fatalf("%v: %v, %v, not %v, %v", ss, got, err, k, want)
		}
		found[want]++
		for _, label := range []string{"", "s0", "s3", "z"} {
			place := slices.IndexFunc(ss, func(s Step) bool { return s.Label == label && label != "" })
			if got := Find(ss, label); got != place {
				t.Fatalf("%v: %q at %v, not %v", ss, label, got, place)
			}
		}
	}
	for _, want := range []error{nil, api.ErrLimit, api.ErrTwice, api.ErrPattern, api.ErrName} {
		if found[want] < 100 {
			t.Error(want, found)
		}
	}
}

// within tells whether a text lies in the memory of another one.
func within(part, all string) bool {
	p, b := uintptr(unsafe.Pointer(unsafe.StringData(part))), uintptr(unsafe.Pointer(unsafe.StringData(all)))
	return len(part) > 0 && p >= b && p < b+uintptr(len(all))
}

// clone is a copy of steps that shares no arms with them.
func clone(ss []Step) []Step {
	kept := slices.Clone(ss)
	for k := range kept {
		kept[k].Arms = slices.Clone(kept[k].Arms)
	}
	return kept
}

// W6: arguments are not altered, and no answer shares memory with one, or with another answer; nor do the arms of two steps.
func TestMemory(t *testing.T) {
	const want = "first: send \"text\";\nexpect \"aa\" go first, \"bb\" go last, \"cc\" go last after 5 go last;\nexpect \"dd\" go first after 6 go last;\nlast: try 3 go first;\ngo last;\n"
	s := strings.Clone(want)
	first, _ := Parse(s)
	second, err := Parse(s)
	if err != nil || len(first) != 5 || len(second) != 5 {
		t.Fatal(first, second, err)
	}
	kept := clone(second)
	for _, x := range first {
		for _, part := range append([]string{x.Label, x.Text, x.To}, patterns(x.Arms)...) {
			if within(part, s) {
				t.Error(part, "lies in the text")
			}
		}
		for _, a := range x.Arms {
			if within(a.To, s) {
				t.Error(a.To, "lies in the text")
			}
		}
	}
	for k := range first {
		arms := first[k].Arms[:cap(first[k].Arms)]
		before := clone(first[k+1:])
		for j := range arms {
			arms[j] = Arm{"spoilt", "spoilt"}
		}
		if !slices.EqualFunc(first[k+1:], before, same) {
			t.Error(k, first)
		}
	}
	for k := range first[:cap(first)] {
		first[:cap(first)][k] = named("spoilt", jump("spoilt"))
	}
	if !slices.EqualFunc(second, kept, same) {
		t.Error(second)
	}
	reads(t, s, kept...)
	if got := Text(second); got != want || within(second[0].Label, got) || within(second[0].Text, got) {
		t.Errorf("%q", got)
	}
	wrong := append(clone(second), named("first", Step{Kind: 9, N: -1}), Step{Kind: -9, Arms: []Arm{{"(", ""}}})
	kept = clone(wrong)
	Text(wrong)
	Find(wrong, "last")
	Find(wrong, "")
	checks(t, wrong[:5], 0, nil)
	checks(t, wrong, 5, api.ErrTwice)
	if !slices.EqualFunc(wrong, kept, same) {
		t.Error(wrong)
	}
}

// W2: what was asked before, or is at the same time, does not matter.
func TestApart(t *testing.T) {
	const s = "a: send \"\\r\";\nexpect \"=> \" go b, \"x\" go a after 8 go c;\nc: try 5 go a;\nfail;\nb: done;\n"
	ask := func() {
		got, err := Parse(s)
		k, wrong := Check(got)
		if err != nil || len(got) != 5 || k != 0 || wrong != nil || Text(got) != s || Find(got, "b") != 4 {
			t.Error(got, err, k, wrong)
		}
	}
	ask()
	fails(t, s+"wait;", api.ErrName, len(s))
	ask()
	fails(t, s+"$", api.ErrLex, len(s))
	checks(t, []Step{jump("a")}, 0, api.ErrName)
	ask()
	checks(t, nil, -1, api.ErrLimit)
	Text([]Step{{Kind: 77}})
	var group sync.WaitGroup
	for range 8 {
		group.Go(func() {
			for range 100 {
				ask()
			}
		})
	}
	group.Wait()
}
