package play

import (
	"math"
	"math/rand"
	"reflect"
	"regexp"
	"slices"
	"strconv"
	"strings"
	"sync"
	"testing"
	"unsafe"

	"lifeline/dialog"
	"lifeline/regex"
)

// The signatures of the chapter, to the letter.
var (
	_ func([]dialog.Step) (*Play, []byte) = Of
	_ func(*Play, byte) []byte            = (*Play).Put
	_ func(*Play) []byte                  = (*Play).Tick
	_ func(*Play) State                   = (*Play).State
	_ func(*Play) int                     = (*Play).At
	_ func(*Play) []int                   = (*Play).Trace
)

// The numbers of ticks and times about which a step might go wrong.
var edges = []int{math.MinInt, -256, -1, 0, 1, 2, 9, 10, 98, 99, 100, 253, 254, 255, 256, 257, math.MaxInt}

func send(text string) dialog.Step { return dialog.Step{Kind: dialog.Send, Text: text} }
func awaits(n int, to string, as ...dialog.Arm) dialog.Step {
	return dialog.Step{Kind: dialog.Expect, Arms: as, N: n, To: to}
}
func jump(to string) dialog.Step         { return dialog.Step{Kind: dialog.Goto, To: to} }
func retry(n int, to string) dialog.Step { return dialog.Step{Kind: dialog.Try, N: n, To: to} }
func done() dialog.Step                  { return dialog.Step{Kind: dialog.Done} }
func failed() dialog.Step                { return dialog.Step{Kind: dialog.Fail} }

// named is a step with a label.
func named(label string, s dialog.Step) dialog.Step {
	s.Label = label
	return s
}

// parsed is the dialogue of a text.
func parsed(t *testing.T, text string) []dialog.Step {
	t.Helper()
	ss, err := dialog.Parse(text)
	if err != nil {
		t.Fatalf("%q: %v", text, err)
	}
	return ss
}

// written is what one call sent, and what is to be asked behind it: "x~1" means that x was sent and that it waits at step 1; + is Well, - is Ill; behind them stands the Trace, if there is one, as [0,2].
func written(sent string, state State, at int, trace []int) string {
	text := sent + "?"
	if state >= Runs && state <= Ill {
		text = sent + "~+-"[state:state+1]
	}
	text += strconv.Itoa(at)
	for k, arm := range trace {
		text += "[,"[min(k, 1):min(k, 1)+1] + strconv.Itoa(arm)
	}
	if len(trace) > 0 {
		text += "]"
	}
	return text
}

// told is what a call of a Play brought.
func told(p *Play, sent []byte) string { return written(string(sent), p.State(), p.At(), p.Trace()) }

// do is one event: a Tick, if it is a dot, or else a byte.
func do(p *Play, event byte) []byte {
	if event == '.' {
		return p.Tick()
	}
	return p.Put(event)
}

// play is what Of and each event brings, with spaces between.
func play(ss []dialog.Step, events string) string {
	p, sent := Of(ss)
	text := told(p, sent)
	for i := range len(events) {
		text += " " + told(p, do(p, events[i]))
	}
	return text
}

// runs compares what steps bring.
func runs(t *testing.T, ss []dialog.Step, events, want string) {
	t.Helper()
	if got := play(ss, events); got != want {
		t.Errorf("%s and %q:\n got %s\nwant %s", dialog.Text(ss), events, got, want)
	}
}

// row is a dialogue, what happens, and what that brings.
type row struct{ text, events, want string }

// rows compares them all.
func rows(t *testing.T, list []row) {
	t.Helper()
	for _, r := range list {
		runs(t, parsed(t, r.text), r.events, r.want)
	}
}

// The numbers of the states.
func TestStates(t *testing.T) {
	if Runs != 0 || Well != 1 || Ill != 2 {
		t.Error(Runs, Well, Ill)
	}
	var s State = Ill
	if int(s) != 2 {
		t.Error(s)
	}
}

// P18.1, P18.2, the chapter's example.
func TestExample(t *testing.T) {
	const text = `a: send "x"; expect "y" go b after 2 go a; b: done;`
	rows(t, []row{
		{text, "", "x~1"},
		{text, "..y", "x~1 ~1 x~1 +2[0]"},
		{text, "y", "x~1 +2[0]"},
		{text, "zy", "x~1 ~1 +2[0]"},
		{text, "z.z.z.z.zy", "x~1 ~1 ~1 ~1 x~1 ~1 ~1 ~1 x~1 ~1 +2[0]"},
		{text, "y.y", "x~1 +2[0] +2[0] +2[0]"},
	})
}

// P18.1: a text is sent, and the next step follows; behind the last one it ends Ill.
func TestSend(t *testing.T) {
	rows(t, []row{
		{`send "x"; done;`, "", "x+1"},
		{`send ""; done;`, "", "+1"},
		{`send "x"; send "y"; fail;`, "", "xy-2"},
		{`send "x"; send ""; send "yx"; done;`, "", "xyx+3"},
		{`send "x";`, ".x", "x-1 -1 -1"},
		{`send "";`, ".x", "-1 -1 -1"},
		{`a: send "x"; b: send "y"; c: send "z";`, "", "xyz-3"},
		{`expect "k" go a after 1 go b; a: send "x"; send "y"; done; b: send "z";`, "k", "~0 xy+3[0]"},
		{`expect "k" go a after 1 go b; a: send "x"; send "y"; done; b: send "z";`, ".", "~0 z-5"},
		{`a: expect "k" go b after 1 go b; b: send "x"; go a;`, "k.jk", "~0 x~0[0] x~0[0] ~0[0] x~0[0,0]"},
	})
	var bytes [256]byte
	for i := range bytes {
		bytes[i] = byte(i)
		runs(t, []dialog.Step{send(string(bytes[i : i+1])), done()}, "", string(bytes[i:i+1])+"+1")
	}
	runs(t, []dialog.Step{send(string(bytes[:])), done()}, "", string(bytes[:])+"+1")
	long := strings.Repeat("0123456789abcdef", 1<<11)
	runs(t, []dialog.Step{named("a", send(long)), retry(126, "a"), send("x"), done()}, "", strings.Repeat(long, 127)+"x+3")
}

// P18.1: the step with the label follows.
func TestGoto(t *testing.T) {
	rows(t, []row{
		{`go b; a: done; b: fail;`, "", "-2"},
		{`go a; a: done; b: fail;`, "", "+1"},
		{`go b; c: send "x"; a: done; b: send "y"; go c;`, "", "yx+2"},
		{`a: go b; done; c: go d; done; b: go c; fail; d: send "x"; fail;`, "", "x-7"},
		{`a: go a;`, "", "-0"},
		{`send "x"; a: go a;`, "", "x-1"},
		{`go: go done; fail: done; done: fail;`, "", "-2"},
		{`send: go send2; send2: go send3; done; send3: send "x";`, "", "x-4"},
	})
}

// P18.1: a Try leads to its label so often, and then to the next step; then it counts anew.
func TestTry(t *testing.T) {
	again := `a: try 1 go b; send "n"; expect "k" go a, "j" go b after 1 go d; b: send "y"; go a; d: done;`
	through := `a: expect "k" go b, "j" go c after 5 go d; b: send "x"; try 2 go a; c: send "z"; expect "k" go b after 1 go d; d: fail;`
	rows(t, []row{
		{`a: try 1 go b; send "x"; done; b: send "y"; go a;`, "", "yx+2"},
		{`a: try 2 go b; send "x"; done; b: send "y"; go a;`, "", "yyx+2"},
		{`a: try 9 go b; send "x"; done; b: send "y"; go a;`, "", "yyyyyyyyyx+2"},
		{`a: try 1 go a; send "x"; done;`, "", "x+2"},
		{`a: send "x"; try 3 go a; send "y"; done;`, "", "xxxxy+3"},
		{`a: send "x"; try 3 go a;`, "", "xxxx-2"},
		{`try 1 go b; done; b: send "x";`, "", "x-3"},
		{`a: send "x"; try 1 go a; send "y"; try 1 go a; send "z"; done;`, "", "xxyxxyz+5"},
		{`a: send "x"; try 2 go a; send "y"; try 1 go a; send "z"; try 1 go a; done;`, "", "xxxyxxxyzxxxyxxxyz+6"},
		{`a: send "x"; try 1 go b; done; b: send "y"; try 1 go a; fail;`, "", "xyx+2"},
		{`a: send "x"; try 2 go b; done; b: send "y"; try 1 go a; fail;`, "", "xyxy-5"},
		{again, "", "yn~2"},
		{again, "kk.", "yn~2 yn~2[0] yn~2[0,0] +5[0,0]"},
		{again, "jkjj.", "yn~2 yyn~2[1] yn~2[1,0] yyn~2[1,0,1] yyn~2[1,0,1,1] +5[1,0,1,1]"},
		{through, "kkkk.", "~0 x~0[0] x~0[0,0] xz~4[0,0,0] x~0[0,0,0,0] ~0[0,0,0,0]"},
		{through, "kjkk", "~0 x~0[0] z~4[0,1] x~0[0,1,0] xz~4[0,1,0,0]"},
		{through, "jkkkkkk", "~0 z~4[1] x~0[1,0] x~0[1,0,0] xz~4[1,0,0,0] x~0[1,0,0,0,0] x~0[1,0,0,0,0,0] xz~4[1,0,0,0,0,0,0]"},
	})
}

// P18.1: a Try of no times, or of fewer, leads to the next step at once; one of more times than are parsed is one like others.
func TestTryNumbers(t *testing.T) {
	for _, n := range edges {
		ss := []dialog.Step{named("a", send("x")), awaits(1, "b", dialog.Arm{Pattern: "k", To: "b"}), named("b", retry(n, "a")), send("y"), named("c", done())}
		p, sent := Of(ss)
		if got := told(p, sent); got != "x~1" {
			t.Fatalf("%d times: %s", n, got)
		}
		for k := range min(max(n, 0), 300) {
			if got := told(p, p.Tick()); got != "x~1" {
				t.Fatalf("%d times, time %d: %s", n, k, got)
			}
		}
		want := "y+4"
		if n > 300 {
			want = "x~1"
		}
		if got := told(p, p.Tick()); got != want {
			t.Errorf("%d times: %s, want %s", n, got, want)
		}
	}
}

// P18.1, P18.2: Done ends it Well, Fail and every other kind Ill; nothing else of such a step means anything.
func TestEnds(t *testing.T) {
	rows(t, []row{
		{`done;`, "", "+0"},
		{`fail;`, "", "-0"},
		{`done; send "x"; fail;`, ".x", "+0 +0 +0"},
		{`fail; send "x"; done;`, ".x", "-0 -0 -0"},
		{`send "x"; a: done; fail;`, "", "x+1"},
		{`send "x"; a: fail; done;`, "", "x-1"},
		{`expect "k" go a after 1 go b; a: done; b: fail;`, "k", "~0 +1[0]"},
		{`expect "k" go a after 1 go b; a: done; b: fail;`, ".", "~0 -2"},
	})
	for _, kind := range []dialog.Kind{math.MinInt, -256, -5, -2, -1, 4, 5, 6, 7, 8, 256, 1 << 32, 1<<32 + 4, math.MaxInt} {
		sign := "-"
		if kind == dialog.Done {
			sign = "+"
		}
		for _, s := range []dialog.Step{
			{Kind: kind},
			{Kind: kind, Label: "a"},
			{Kind: kind, Label: "a", Text: "t", Arms: []dialog.Arm{{Pattern: "k", To: "b"}}, N: 3, To: "b", At: 5},
			{Kind: kind, Text: "t", Arms: []dialog.Arm{{Pattern: "(", To: "?"}, {}}, N: -3, To: "?", At: -5},
		} {
			runs(t, []dialog.Step{s}, ".k", sign+"0 "+sign+"0 "+sign+"0")
			runs(t, []dialog.Step{named("b", send("x")), s, done()}, "k", "x"+sign+"1 "+sign+"1")
			runs(t, []dialog.Step{named("b", awaits(1, "c", dialog.Arm{Pattern: "k", To: "b"})), named("c", send("x")), s, failed()}, "k..", "~0 ~0[0] x"+sign+"2[0] "+sign+"2[0]")
		}
	}
}

// P18.1: what a step of a kind has beside what the kind needs means nothing.
func TestNeeds(t *testing.T) {
	arms := []dialog.Arm{{Pattern: "k", To: "?"}, {Pattern: "", To: ""}}
	for _, ss := range [][]dialog.Step{
		{{Kind: dialog.Send, Text: "x", Arms: arms, N: 7, To: "?", At: 9}, done()},
		{{Kind: dialog.Goto, Text: "y", Arms: arms, N: 7, To: "b", At: 9}, failed(), named("b", send("x")), done()},
		{{Kind: dialog.Try, Text: "y", Arms: arms, N: 1, To: "b", At: 9}, failed(), named("b", send("x")), done()},
		{{Label: "a", Kind: dialog.Try, Text: "y", Arms: arms, N: 1, To: "a", At: 9}, send("x"), done()},
	} {
		runs(t, ss, "k", "x+"+strconv.Itoa(len(ss)-1)+" +"+strconv.Itoa(len(ss)-1))
	}
	runs(t, []dialog.Step{{Kind: dialog.Expect, Text: "y", Arms: []dialog.Arm{{Pattern: "k", To: "a"}}, N: 2, To: "b", At: 9}, named("a", send("x")), named("b", done())}, "jk", "~0 ~0 x+2[0]")
}

// P18.1: an Expect waits for its patterns, of which the first one counts that matches.
func TestExpect(t *testing.T) {
	rows(t, []row{
		{`expect "k" go a after 9 go b; a: done; b: fail;`, "", "~0"},
		{`expect "k" go a after 9 go b; a: done; b: fail;`, "jjk", "~0 ~0 ~0 +1[0]"},
		{`send "x"; expect "ok" go a, "no" go b after 9 go b; a: send "y"; done; b: send "z"; fail;`, "ook", "x~1 ~1 ~1 y+3[0]"},
		{`send "x"; expect "ok" go a, "no" go b after 9 go b; a: send "y"; done; b: send "z"; fail;`, "nok", "x~1 ~1 z-5[1] -5[1]"},
		{`expect "ab" go a, "b" go b after 9 go b; a: done; b: fail;`, "ab", "~0 ~0 +1[0]"},
		{`expect "ab" go a, "b" go b after 9 go b; a: done; b: fail;`, "bb", "~0 -2[1] -2[1]"},
		{`expect "b" go a, "ab" go b after 9 go b; a: done; b: fail;`, "ab", "~0 ~0 +1[0]"},
		{`expect "k" go a, "k" go b after 9 go b; a: done; b: fail;`, "k", "~0 +1[0]"},
		{`expect "k" go b, "k" go a after 9 go a; a: done; b: fail;`, "k", "~0 -2[0]"},
		{`expect "a+b|c" go a after 9 go b; a: done; b: fail;`, "aaab", "~0 ~0 ~0 ~0 +1[0]"},
		{`expect "a+b|c" go a after 9 go b; a: done; b: fail;`, "bac", "~0 ~0 ~0 +1[0]"},
		{`expect "[^x]." go a after 9 go b; a: done; b: fail;`, "xxyx", "~0 ~0 ~0 ~0 +1[0]"},
		{`expect "[]" go a after 2 go b; a: done; b: fail;`, "k..", "~0 ~0 ~0 -2"},
		{`a: expect "k" go a after 2 go a;`, "k.k.k..", "~0 ~0[0] ~0[0] ~0[0,0] ~0[0,0] ~0[0,0,0] ~0[0,0,0] ~0[0,0,0]"},
		{`expect "k" go a after 1 go a; done; a: expect "j" go b after 1 go b; done; b: expect "i" go c after 1 go c; c: done;`, "kji", "~0 ~2[0] ~4[0,0] +5[0,0,0]"},
		{`expect "k" go a after 1 go a; done; a: expect "j" go b after 1 go b; done; b: expect "i" go c after 1 go c; c: done;`, "i.k.j.", "~0 ~0 ~2 ~2 ~4 ~4 +5"},
	})
}

// P18.1: each of eight arms leads to its target, and its index is what the Trace says.
func TestArms(t *testing.T) {
	const labels = "stuvwxyz"
	for many := 1; many <= 8; many++ {
		ss := []dialog.Step{{Kind: dialog.Expect, N: 9, To: "s"}}
		for k := range many {
			ss[0].Arms = append(ss[0].Arms, dialog.Arm{Pattern: "=" + string(labels[many-1-k]), To: string(labels[k])})
			ss = append(ss, named(string(labels[k]), send(string(labels[k]))), failed())
		}
		for k := range many {
			events := "-=" + string(labels[many-1-k])
			runs(t, ss, events, "~0 ~0 ~0 "+written(string(labels[k]), Ill, 2*k+2, []int{k}))
		}
		runs(t, ss, "=a", "~0 ~0 ~0")
	}
}

// P18.1: each time that it waits it waits for patterns among the bytes since, and for all ticks.
func TestWaitsAnew(t *testing.T) {
	rows(t, []row{
		{`a: expect "ab" go b after 3 go a; b: expect "ab" go c after 3 go b; c: done;`, "abbaab", "~0 ~0 ~1[0] ~1[0] ~1[0] ~1[0] +2[0,0]"},
		{`a: expect "b" go b after 3 go a; b: expect "ab" go c after 3 go b; c: done;`, "abbab", "~0 ~0 ~1[0] ~1[0] ~1[0] +2[0,0]"},
		{`a: expect "a" go b after 3 go a; b: expect "ab" go c after 3 go b; c: done;`, "abab", "~0 ~1[0] ~1[0] ~1[0] +2[0,0]"},
		{`a: expect "a" go b after 3 go a; b: expect "a" go c after 3 go b; c: done;`, "aa", "~0 ~1[0] +2[0,0]"},
		{`a: expect "aa" go a after 1 go a;`, "aaaaa.aa", "~0 ~0 ~0[0] ~0[0] ~0[0,0] ~0[0,0] ~0[0,0] ~0[0,0] ~0[0,0,0]"},
		{`a: expect "ab" go b after 2 go a; b: done;`, "a.b", "~0 ~0 ~0 +1[0]"},
		{`a: expect "ab" go b after 2 go a; b: done;`, "a..b", "~0 ~0 ~0 ~0 ~0"},
		{`a: expect "ab" go b after 2 go a; b: done;`, "..a.b", "~0 ~0 ~0 ~0 ~0 +1[0]"},
		{`a: expect "k" go a after 3 go b; b: done;`, "..k..k...", "~0 ~0 ~0 ~0[0] ~0[0] ~0[0] ~0[0,0] ~0[0,0] ~0[0,0] +1[0,0]"},
		{`a: expect "k" go b after 3 go c; b: expect "k" go a after 2 go c; c: fail;`, "..k.k..k..", "~0 ~0 ~0 ~1[0] ~1[0] ~0[0,0] ~0[0,0] ~0[0,0] ~1[0,0,0] ~1[0,0,0] -2[0,0,0]"},
		{`a: expect "k" go b after 1 go c; b: done; c: send "x"; go a;`, "...k", "~0 x~0 x~0 x~0 +1[0]"},
		{`a: expect "k" go b after 2 go c; b: done; c: expect "j" go b after 3 go a;`, ".........", "~0 ~0 ~2 ~2 ~2 ~0 ~0 ~2 ~2 ~2"},
	})
}

// P18.1: an Expect waits for N ticks, but at least 1; bytes take none of them.
func TestTicks(t *testing.T) {
	for _, n := range edges {
		for _, bytes := range []string{"", "j", "jjjj"} {
			p, sent := Of([]dialog.Step{awaits(n, "b", dialog.Arm{Pattern: "k", To: "a"}), named("a", failed()), named("b", send("x")), done()})
			if got := told(p, sent); got != "~0" {
				t.Fatalf("%d ticks: %s", n, got)
			}
			for k := range min(max(n, 1), 1000) {
				if k > 0 {
					if got := told(p, p.Tick()); got != "~0" {
						t.Fatalf("%d ticks, tick %d: %s", n, k, got)
					}
				}
				for i := range len(bytes) {
					if got := told(p, p.Put(bytes[i])); got != "~0" {
						t.Fatalf("%d ticks, byte behind tick %d: %s", n, k, got)
					}
				}
			}
			want := "x+3"
			if n > 1000 {
				want = "~0"
			}
			if got := told(p, p.Tick()); got != want {
				t.Errorf("%d ticks: %s, want %s", n, got, want)
			}
		}
	}
}

// P18.1: what is put and what ticks by has no effect once it has ended, however it did.
func TestOver(t *testing.T) {
	arm := dialog.Arm{Pattern: ".", To: "a"}
	for _, ss := range [][]dialog.Step{
		{done()},
		{failed()},
		{send("x")},
		{{Kind: 6}},
		{named("a", jump("a"))},
		{named("a", retry(256, "a")), awaits(1, "a", arm)},
		{named("a", retry(255, "a")), awaits(1, "a", arm)},
		{named("a", done()), awaits(1, "a", arm)},
		{named("a", send("x")), failed(), awaits(1, "a", arm)},
		{awaits(1, "?", arm)},
		{named("a", awaits(1, "a", arm)), named("a", send("x"))},
		nil,
	} {
		p, sent := Of(ss)
		if p.State() == Runs {
			t.Fatal(dialog.Text(ss))
		}
		want := strings.TrimPrefix(told(p, sent), string(sent))
		for k := range 600 {
			if got := told(p, p.Put(byte(k))); got != want {
				t.Fatalf("%s: %s, want %s", dialog.Text(ss), got, want)
			}
			if got := told(p, p.Tick()); got != want {
				t.Fatalf("%s: %s, want %s", dialog.Text(ss), got, want)
			}
		}
	}
	rows(t, []row{
		{`a: expect "k" go b, "j" go c after 1 go d; b: done; c: fail; d: send "x";`, "kkj.k", "~0 +1[0] +1[0] +1[0] +1[0] +1[0]"},
		{`a: expect "k" go b, "j" go c after 1 go d; b: done; c: fail; d: send "x";`, "jkj.k", "~0 -2[1] -2[1] -2[1] -2[1] -2[1]"},
		{`a: expect "k" go b, "j" go c after 1 go d; b: done; c: fail; d: send "x";`, ".kj.k", "~0 x-4 -4 -4 -4 -4"},
		{`a: expect "k" go b, "j" go c after 1 go d; b: go b; c: fail; d: send "x";`, "kkj.k", "~0 -1[0] -1[0] -1[0] -1[0] -1[0]"},
	})
}

// bound is a dialogue, and what its first run brings.
type bound struct {
	ss   []dialog.Step
	want string
}

// limited are dialogues of which a run executes the steps up to, but not at, the limit, or beyond it; d is the place of the first step behind an Expect that may stand ahead.
func limited(d int) []bound {
	at := func(sent, sign string, k int) string { return sent + sign + strconv.Itoa(k+d) }
	arm := dialog.Arm{Pattern: "q", To: "a"}
	return []bound{
		// 255 times a Try, and then one step more.
		{[]dialog.Step{named("a", retry(254, "a")), done()}, at("", "+", 1)},
		{[]dialog.Step{named("a", retry(254, "a")), failed(), done()}, at("", "-", 1)},
		{[]dialog.Step{named("a", retry(254, "a")), {Kind: 6}, done()}, at("", "-", 1)},
		{[]dialog.Step{named("a", retry(254, "a")), awaits(1, "a", arm)}, at("", "~", 1)},
		{[]dialog.Step{named("a", retry(254, "a")), send("x"), done()}, at("x", "-", 2)},
		{[]dialog.Step{named("a", retry(254, "a")), send("x"), failed(), done()}, at("x", "-", 2)},
		{[]dialog.Step{named("a", retry(254, "a")), send("x"), awaits(1, "a", arm)}, at("x", "-", 2)},
		{[]dialog.Step{named("a", retry(254, "a")), send("x"), send("y")}, at("x", "-", 2)},
		{[]dialog.Step{named("a", retry(254, "a")), send("x")}, at("x", "-", 2)},
		{[]dialog.Step{named("a", retry(254, "a")), jump("b"), send("x"), named("b", done())}, at("", "-", 3)},
		{[]dialog.Step{named("a", retry(254, "a")), jump("b"), send("x"), named("b", awaits(1, "a", arm))}, at("", "-", 3)},
		{[]dialog.Step{named("a", retry(254, "a")), retry(1, "b"), send("x"), named("b", done())}, at("", "-", 3)},
		{[]dialog.Step{named("a", retry(254, "a")), retry(0, "b"), send("x"), named("b", done())}, at("", "-", 2)},
		{[]dialog.Step{named("a", retry(254, "a")), jump("a")}, at("", "-", 0)},
		{[]dialog.Step{named("a", retry(254, "a"))}, at("", "-", 1)},
		// 256 times one.
		{[]dialog.Step{named("a", retry(255, "a")), done()}, at("", "-", 1)},
		{[]dialog.Step{named("a", retry(255, "a")), awaits(1, "a", arm)}, at("", "-", 1)},
		{[]dialog.Step{named("a", retry(255, "a")), send("x"), done()}, at("", "-", 1)},
		{[]dialog.Step{named("a", retry(255, "a"))}, at("", "-", 1)},
		{[]dialog.Step{named("a", retry(256, "a")), done()}, at("", "-", 0)},
		{[]dialog.Step{named("a", retry(math.MaxInt, "a")), done()}, at("", "-", 0)},
		// 256 steps, two or three at a time.
		{[]dialog.Step{named("a", send("x")), jump("a")}, at(strings.Repeat("x", 128), "-", 0)},
		{[]dialog.Step{send("y"), named("a", send("x")), jump("a")}, at("y"+strings.Repeat("x", 128), "-", 2)},
		{[]dialog.Step{named("a", send("x")), send("y"), jump("a")}, at(strings.Repeat("xy", 85)+"x", "-", 1)},
		{[]dialog.Step{named("a", send("x")), send("y"), retry(84, "a"), done()}, at(strings.Repeat("xy", 85), "+", 3)},
		{[]dialog.Step{named("a", send("x")), send("y"), retry(84, "a"), send("z"), done()}, at(strings.Repeat("xy", 85)+"z", "-", 4)},
		{[]dialog.Step{named("a", send("x")), send("y"), retry(85, "a"), done()}, at(strings.Repeat("xy", 85)+"x", "-", 1)},
	}
}

// P18.1, P18.2: 256 steps are executed in a run at most, whatever would follow; each run counts for itself, and an Expect belongs to the run that begins to wait.
func TestLimit(t *testing.T) {
	for _, l := range limited(0) {
		runs(t, l.ss, "", l.want)
	}
	for _, l := range limited(2) {
		first := l.ss[0].Label
		if first == "" {
			first = "first"
		}
		for _, n := range []int{1, 2} {
			ss := slices.Concat([]dialog.Step{send("s"), awaits(n, first, dialog.Arm{Pattern: "k", To: first})}, l.ss)
			ss[2].Label = first
			runs(t, ss, "k", "s~1 "+l.want+"[0]")
			runs(t, ss, strings.Repeat(".", n), "s~1 "+strings.Repeat("~1 ", n-1)+l.want)
		}
	}
	// Three runs of 256 steps each, the last of which is an Expect in the first two.
	full := []dialog.Step{named("a", retry(254, "a")), awaits(1, "a", dialog.Arm{Pattern: "k", To: "b"}), named("b", retry(253, "b")), send("x"), awaits(1, "c", dialog.Arm{Pattern: "k", To: "c"}), named("c", retry(254, "c")), done()}
	runs(t, full, ".k.", "~1 ~1 x~4[0] +6[0]")
	runs(t, full, "kk", "~1 x~4[0] +6[0,0]")
}

// P18.1: 64 steps are a dialogue, and all of them may be executed.
func TestMany(t *testing.T) {
	var ss []dialog.Step
	for k := range 64 {
		ss = append(ss, send(strconv.Itoa(k%10)))
		runs(t, ss, "", strings.Repeat("0123456789", 7)[:k+1]+"-"+strconv.Itoa(k+1))
	}
	// From the first step to the last one, and back step by step to the second one.
	for k := range 64 {
		ss[k] = named("l"+strconv.Itoa(k), jump("l"+strconv.Itoa(k-1)))
	}
	ss[0].To, ss[1] = "l63", named("l1", done())
	runs(t, ss, "", "+1")
	// In a ring 256 steps are four rounds.
	ss[1] = named("l1", jump("l0"))
	runs(t, ss, "", "-0")
	ss[1] = named("l1", retry(3, "l0"))
	runs(t, ss, "", "-2")
	ss[1] = named("l1", retry(4, "l0"))
	runs(t, ss, "", "-0")
	ss[1], ss[63] = named("l1", send("x")), named("l63", send("y"))
	runs(t, ss, "", "y-64")
}

// P18.1: a dialogue that is wrong is Ill at step 0, and sends nothing, wherever it is wrong, and also if it never comes there.
func TestWrong(t *testing.T) {
	arm := dialog.Arm{Pattern: "k", To: "a"}
	for name, wrong := range map[string]dialog.Step{
		"a label twice":              named("a", send("y")),
		"a Goto to nowhere":          jump("b"),
		"a Goto without label":       jump(""),
		"a Try to nowhere":           retry(1, "b"),
		"a Try without label":        retry(1, ""),
		"an Expect to nowhere":       awaits(1, "b", arm),
		"an Expect without label":    awaits(1, "", arm),
		"an arm to nowhere":          awaits(1, "a", arm, dialog.Arm{Pattern: "j", To: "b"}),
		"an arm without label":       awaits(1, "a", arm, dialog.Arm{Pattern: "j"}),
		"no arms":                    awaits(1, "a"),
		"nine arms":                  awaits(1, "a", arm, arm, arm, arm, arm, arm, arm, arm, arm),
		"a pattern that is none":     awaits(1, "a", arm, dialog.Arm{Pattern: "(", To: "a"}),
		"an empty pattern":           awaits(1, "a", dialog.Arm{To: "a"}),
		"a pattern of no byte":       awaits(1, "a", dialog.Arm{Pattern: "k*", To: "a"}),
		"a pattern that is too long": awaits(1, "a", dialog.Arm{Pattern: strings.Repeat("k", 65), To: "a"}),
	} {
		for _, ahead := range [][]dialog.Step{{named("a", send("x"))}, {named("a", done())}, {named("a", failed())}, {named("a", jump("a"))}, {named("a", awaits(1, "a", arm))}, {named("a", send("x")), done(), send("z")}} {
			ss := slices.Concat(ahead, []dialog.Step{wrong, done()})
			if _, err := dialog.Check(ss); err == nil {
				t.Fatal(name)
			}
			runs(t, ss, "k..k", "-0 -0 -0 -0 -0")
			runs(t, ss[:len(ss)-1], "k..k", "-0 -0 -0 -0 -0")
			runs(t, slices.Concat([]dialog.Step{send("y"), wrong}, ahead), "k..k", "-0 -0 -0 -0 -0")
		}
	}
	many := make([]dialog.Step, 64)
	runs(t, many, "", "-64")
	runs(t, append(many, done()), "k..k", "-0 -0 -0 -0 -0")
	runs(t, append(slices.Repeat([]dialog.Step{done()}, 64), done()), "k..k", "-0 -0 -0 -0 -0")
	runs(t, make([]dialog.Step, 100000), ".", "-0 -0")
	runs(t, nil, "k..k", "-0 -0 -0 -0 -0")
	runs(t, []dialog.Step{}, "k..k", "-0 -0 -0 -0 -0")
}

// model is a dialogue as the chapter's words have it: what it has come to, and what happened since it began to wait.
type model struct {
	ss    []dialog.Step
	fits  func(pattern, s string) bool
	times map[int]int
	at    int
	state State
	trace []int
	bytes string
	ticks int
}

// modelOf is a model, and what Of sends.
func modelOf(ss []dialog.Step, fits func(string, string) bool) (*model, string) {
	m := &model{ss: ss, fits: fits, times: map[int]int{}}
	if _, err := dialog.Check(ss); err != nil {
		m.state = Ill
		return m, ""
	}
	return m, m.from(0, 256)
}

// place is the index of a label.
func (m *model) place(label string) int {
	return slices.IndexFunc(m.ss, func(s dialog.Step) bool { return s.Label == label })
}

// from goes on from a step, with so many left to be executed.
func (m *model) from(at, left int) string {
	m.at = at
	if left == 0 || at == len(m.ss) {
		m.state = Ill
		return ""
	}
	s := m.ss[at]
	switch s.Kind {
	case dialog.Send:
		return s.Text + m.from(at+1, left-1)
	case dialog.Expect:
		m.bytes, m.ticks = "", 0
		return ""
	case dialog.Goto:
		return m.from(m.place(s.To), left-1)
	case dialog.Try:
		if m.times[at] == max(s.N, 0) {
			delete(m.times, at)
			return m.from(at+1, left-1)
		}
		m.times[at]++
		return m.from(m.place(s.To), left-1)
	}
	m.state = map[bool]State{true: Well, false: Ill}[s.Kind == dialog.Done]
	return ""
}

// event is what an event sends.
func (m *model) event(c byte) string {
	if m.state != Runs {
		return ""
	}
	s := m.ss[m.at]
	if c == '.' {
		m.ticks++
		if m.ticks == s.N || s.N <= 0 {
			return m.from(m.place(s.To), 256)
		}
		return ""
	}
	m.bytes += string([]byte{c})
	for k, a := range s.Arms {
		if m.fits(a.Pattern, m.bytes) {
			m.trace = append(m.trace, k)
			return m.from(m.place(a.To), 256)
		}
	}
	return ""
}

// follow compares a dialogue with its model, event by event.
func follow(t *testing.T, ss []dialog.Step, events string, fits func(string, string) bool) *model {
	t.Helper()
	m, text := modelOf(ss, fits)
	p, sent := Of(ss)
	for i := range len(events) + 1 {
		got, want := told(p, sent), written(text, m.state, m.at, m.trace)
		if got != want {
			t.Fatalf("%s and %q, event %d: %s, want %s", dialog.Text(ss), events, i, got, want)
		}
		if i < len(events) {
			sent, text = do(p, events[i]), m.event(events[i])
		}
	}
	return m
}

// literal tells whether bytes end with those of a pattern that has only such as stand for themselves.
func literal(pattern, s string) bool { return strings.HasSuffix(s, pattern) }

// small are steps that lead to some of the first labels.
func small(many int, ns ...int) []dialog.Step {
	ss := []dialog.Step{send("x"), done(), failed(), {Kind: 7, To: "a"}}
	labels := "abc"[:many]
	for _, to := range strings.Split(labels, "") {
		ss = append(ss, jump(to))
		for _, n := range ns {
			ss = append(ss, retry(n, to))
			for _, arm := range strings.Split(labels, "") {
				ss = append(ss, awaits(n, to, dialog.Arm{Pattern: "k", To: arm}))
			}
			ss = append(ss, awaits(n, to, dialog.Arm{Pattern: "kj", To: labels[:1]}, dialog.Arm{Pattern: "j", To: labels[many-1:]}))
		}
	}
	return ss
}

// words are all texts of letters of a length.
func words(letters string, length int) []string {
	list := []string{""}
	for range length {
		var longer []string
		for _, w := range list {
			for _, c := range letters {
				longer = append(longer, w+string(c))
			}
		}
		list = longer
	}
	return list
}

// dialogues are all of so many steps, of which the first one has the label a, and so on.
func dialogues(of []dialog.Step, many int) [][]dialog.Step {
	list := [][]dialog.Step{nil}
	for k := range many {
		var longer [][]dialog.Step
		for _, ss := range list {
			for _, s := range of {
				longer = append(longer, append(slices.Clone(ss), named("abc"[k:k+1], s)))
			}
		}
		list = longer
	}
	return list
}

// P18.1, P18.2: all small dialogues, with all short runs of events.
func TestAllSmall(t *testing.T) {
	for _, size := range []struct {
		many, length int
		events       string
		ns           []int
	}{{1, 6, "kj.", []int{-1, 0, 1, 2}}, {2, 5, "kj.", []int{1, 2}}, {3, 4, "k.", []int{1}}} {
		runs := words(size.events, size.length)
		for _, ss := range dialogues(small(size.many, size.ns...), size.many) {
			for _, events := range runs {
				follow(t, ss, events, literal)
				if p, _ := Of(ss); p.State() != Runs {
					break // whatever happens has no effect
				}
			}
		}
	}
}

// patterns are those of dialogues by chance.
var patterns = []string{"k", "j", "kj", "jk", "kk", ".", "k+", "k+j", "[jk]i", "(j|k)*i", "i.k", "j?k", "[^k]", "ijk|kji", "[]"}

// Each pattern at the end of bytes, by the library.
var ends = func() map[string]*regexp.Regexp {
	m := map[string]*regexp.Regexp{}
	for _, p := range patterns {
		q := p
		if p == "[]" {
			q = `[^\x00-\x{10ffff}]`
		}
		m[p] = regexp.MustCompile(`(?s)(?:` + q + `)\z`)
	}
	return m
}()

// ending tells whether bytes end with a match of one of the patterns above.
func ending(pattern, s string) bool { return ends[pattern].MatchString(s) }

// number is a number of ticks or times.
func number(r *rand.Rand) int {
	if r.Intn(8) == 0 {
		return edges[r.Intn(len(edges))]
	}
	return r.Intn(4)
}

// chance is a step that leads to some labels.
func chance(r *rand.Rand, labels int) dialog.Step {
	label := func() string { return "l" + strconv.Itoa(r.Intn(labels)) }
	switch k := r.Intn(40); {
	case k < 10:
		return send("xyz"[r.Intn(3):])
	case k < 15:
		return jump(label())
	case k < 23:
		return retry(number(r), label())
	case k < 37:
		var arms []dialog.Arm
		for range 1 + r.Intn(4) {
			arms = append(arms, dialog.Arm{Pattern: patterns[r.Intn(len(patterns))], To: label()})
		}
		return awaits(number(r), label(), arms...)
	case k == 37:
		return done()
	case k == 38:
		return failed()
	}
	return dialog.Step{Kind: dialog.Kind(r.Intn(20) - 10), Text: "w", To: label(), N: 3, Arms: []dialog.Arm{{Pattern: "k", To: label()}}}
}

// P18.1, P18.2: dialogues and events by chance.
func TestChance(t *testing.T) {
	r := rand.New(rand.NewSource(18))
	var states [3]int
	behind, many, long := 0, 0, 0
	for range 30000 {
		size := 1 + r.Intn(8)
		if r.Intn(8) == 0 {
			size = 1 + r.Intn(64)
		}
		var ss []dialog.Step
		for k := range size {
			s := chance(r, size)
			// A label that is missing makes a dialogue wrong, if something leads there.
			if r.Intn(60) > 0 {
				s.Label = "l" + strconv.Itoa(k)
			}
			ss = append(ss, s)
		}
		var events strings.Builder
		for range r.Intn(60) {
			events.WriteByte("ijk.."[r.Intn(5)])
		}
		m := follow(t, ss, events.String(), ending)
		states[m.state]++
		if m.at == len(ss) {
			behind++
		} else if m.state == Ill && m.at > 0 && ss[m.at].Kind >= dialog.Send && ss[m.at].Kind < dialog.Done {
			many++
		}
		long = max(long, len(m.trace))
	}
	if min(states[0], states[1], states[2], behind, many) < 1000 || long < 20 {
		t.Error(states, behind, many, long)
	}
}

// P18.1: every byte is put into the Watch as it is.
func TestEveryByte(t *testing.T) {
	for c := range 256 {
		s := string([]byte{byte(c)})
		ss := []dialog.Step{awaits(9, "b", dialog.Arm{Pattern: regex.Quote(s), To: "a"}), named("a", done()), named("b", failed())}
		p, _ := Of(ss)
		for other := range 256 {
			if other == c {
				continue
			}
			if got := told(p, p.Put(byte(other))); got != "~0" {
				t.Fatalf("pattern of %d, byte %d: %s", c, other, got)
			}
		}
		if got := told(p, p.Put(byte(c))); got != "+1[0]" {
			t.Errorf("byte %d: %s", c, got)
		}
	}
}

// P18.2: a long Trace, in order.
func TestTrace(t *testing.T) {
	ss := parsed(t, `a: expect "i" go a, "j" go a, "k" go a after 9 go b; b: send "x"; go a;`)
	p, _ := Of(ss)
	var want []int
	for k := range 10000 {
		arm := k * k % 7 % 3
		p.Put("ijk"[arm])
		want = append(want, arm)
		if k%1000 == 0 && !slices.Equal(p.Trace(), want) {
			t.Fatal(k, p.Trace())
		}
		if k%7 == 0 {
			p.Put('h')
			p.Tick()
		}
	}
	if !slices.Equal(p.Trace(), want) {
		t.Error("not what matched, in order")
	}
}

// P18.2: to ask changes nothing.
func TestAsk(t *testing.T) {
	p, _ := Of(parsed(t, `a: send "x"; expect "y" go b after 2 go a; b: done;`))
	for _, step := range []struct {
		event byte
		want  string
	}{{'.', "~1"}, {'z', "~1"}, {'.', "x~1"}, {'y', "+2[0]"}, {'y', "+2[0]"}} {
		sent := do(p, step.event)
		for range 5 {
			if got := told(p, sent); got != step.want {
				t.Errorf("%q: %s, want %s", step.event, got, step.want)
			}
		}
	}
}

// W1: the greatest patterns, which are made to a Watch again and again.
func TestGreatPatterns(t *testing.T) {
	nested := func(s, end string) string { return "((((((" + s + strings.Repeat(")"+end, 6) }
	var arms []dialog.Arm
	for _, p := range []string{nested(strings.Repeat("a*", 22)+"b", "+") + "e", nested(strings.Repeat("a|", 22)+"b", "+") + "g", strings.Repeat("a", 64)} {
		arms = append(arms, dialog.Arm{Pattern: p, To: "b"})
	}
	ss := []dialog.Step{named("a", awaits(1, "a", arms...)), named("b", done())}
	runs(t, ss, strings.Repeat(".", 20)+"be", "~0"+strings.Repeat(" ~0", 21)+" +1[0]")
}

// spoil alters all that a slice can reach.
func spoil[T any](s []T, with T) {
	s = s[:cap(s)]
	for i := range s {
		s[i] = with
	}
}

// copied are steps that share no arms with others.
func copied(ss []dialog.Step) []dialog.Step {
	ss = slices.Clone(ss)
	for k := range ss {
		ss[k].Arms = slices.Clone(ss[k].Arms)
	}
	return ss
}

// talk is a dialogue in which each kind is executed.
const talk = `a: send "x"; try 1 go a; b: expect "ij" go c, "k+l" go d after 2 go a; c: send "yy"; go b; d: send "z"; try 2 go b; done;`

const talked, talking = "ij.kl..l.ijkkl..kl", "xx~2 ~2 yy~2[0] ~2[0] ~2[0] z~2[0,1] ~2[0,1] xx~2[0,1] ~2[0,1] ~2[0,1] ~2[0,1] yy~2[0,1,0] ~2[0,1,0] ~2[0,1,0] z~2[0,1,0,1] ~2[0,1,0,1] xx~2[0,1,0,1] ~2[0,1,0,1] z+7[0,1,0,1,1]"

// W6: steps are not modified, and do not matter any more once Of has answered.
func TestStepsNotKept(t *testing.T) {
	ss := parsed(t, talk)
	runs(t, ss, talked, talking)
	kept := copied(ss)
	for k := range len(talked) + 1 {
		p, sent := Of(ss)
		if !reflect.DeepEqual(ss, kept) {
			t.Fatal("the steps were modified by Of")
		}
		text := told(p, sent)
		for i := range len(talked) {
			if i == k {
				for s := range ss {
					spoil(ss[s].Arms, dialog.Arm{Pattern: "i", To: "?"})
					ss[s] = dialog.Step{Label: "a", Kind: dialog.Kind(s), Text: "w", N: 7, To: "?"}
				}
			}
			text += " " + told(p, do(p, talked[i]))
			if i < k && !reflect.DeepEqual(ss, kept) {
				t.Fatal("the steps were modified")
			}
		}
		if text != talking {
			t.Errorf("altered at event %d:\n got %s\nwant %s", k, text, talking)
		}
		ss = copied(kept)
	}
}

// loose is a text in memory that can be altered.
func loose(s string) (string, []byte) {
	b := []byte(s)
	return unsafe.String(unsafe.SliceData(b), len(b)), b
}

// W6: no text of a step is kept.
func TestTextsNotKept(t *testing.T) {
	ss := parsed(t, talk)
	var all [][]byte
	free := func(s string) string {
		text, b := loose(s)
		all = append(all, b)
		return text
	}
	for k := range ss {
		s := &ss[k]
		s.Label, s.Text, s.To = free(s.Label), free(s.Text), free(s.To)
		for a := range s.Arms {
			s.Arms[a] = dialog.Arm{Pattern: free(s.Arms[a].Pattern), To: free(s.Arms[a].To)}
		}
	}
	p, sent := Of(ss)
	text := told(p, sent)
	for _, b := range all {
		spoil(b, 'w')
	}
	for i := range len(talked) {
		text += " " + told(p, do(p, talked[i]))
	}
	if text != talking {
		t.Errorf("\n got %s\nwant %s", text, talking)
	}
}

// W6: what is returned is new: altering it alters nothing else, and nothing that happens later alters it.
func TestResultsAreNew(t *testing.T) {
	p, sent := Of(parsed(t, talk))
	all, texts := [][]byte{sent}, []string{string(sent)}
	traces, numbers := [][]int{p.Trace()}, [][]int{nil}
	for i := range len(talked) {
		b := do(p, talked[i])
		all, texts = append(all, b), append(texts, string(b))
		traces, numbers = append(traces, p.Trace()), append(numbers, append([]int(nil), p.Trace()...))
	}
	for k := range all {
		if string(all[k]) != texts[k] || !slices.Equal(traces[k], numbers[k]) {
			t.Error(k, all[k], texts[k], traces[k], numbers[k])
		}
	}
	p, sent = Of(parsed(t, talk))
	text := told(p, sent)
	for i := range len(talked) {
		spoil(sent, 'w')
		spoil(p.Trace(), 9)
		sent = do(p, talked[i])
		text += " " + told(p, sent)
	}
	if text != talking {
		t.Errorf("\n got %s\nwant %s", text, talking)
	}
	spoil(p.Trace(), 9)
	if got := told(p, nil); got != "+7[0,1,0,1,1]" {
		t.Error(got)
	}
}

// W2: Plays of the same steps go their own ways, also at the same time.
func TestApart(t *testing.T) {
	ss := parsed(t, talk)
	var group sync.WaitGroup
	for range 8 {
		group.Go(func() {
			for range 50 {
				if got := play(ss, talked); got != talking {
					t.Errorf("\n got %s\nwant %s", got, talking)
				}
			}
		})
	}
	group.Wait()
	first, _ := Of(ss)
	text := "xx~2"
	for i := range len(talked) {
		other, _ := Of(ss)
		for k := range i {
			do(other, talked[k])
		}
		text += " " + told(first, do(first, talked[i]))
		do(other, 'k')
		do(other, '.')
	}
	if text != talking {
		t.Errorf("\n got %s\nwant %s", text, talking)
	}
}

// W1: a Play that Of did not make never does anything.
func TestZero(t *testing.T) {
	var p Play
	for k := range 300 {
		if got := told(&p, p.Put(byte(k))); got != "~0" {
			t.Fatal(got)
		}
		if got := told(&p, p.Tick()); got != "~0" {
			t.Fatal(got)
		}
	}
}
