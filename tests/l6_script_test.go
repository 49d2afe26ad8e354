package tests

import (
	"slices"
	"strings"
	"testing"

	"loop.example/s01647/impl"
)

const aNode = "node ref 1 1 old 1\n"

// expectCode wants a script that is refused, with nothing but its code and line; or, with code 0, one that is read.
func expectCode(t *testing.T, src string, code, at int) {
	t.Helper()
	s := impl.ParseScript(src)
	if s.Code != code || s.Line != at {
		t.Errorf("ParseScript(%.300q): code %d, line %d, want %d, %d", src, s.Code, s.Line, code, at)
	}
	if code != 0 && !sameScripts(s, impl.Script{Code: code, Line: at}) {
		t.Errorf("ParseScript(%.300q): %+v", src, s)
	}
	if want := slowParse(src); !sameScripts(s, want) {
		t.Errorf("ParseScript(%.300q): %+v, want %+v", src, s, want)
	}
}

func TestNumbersOfTheBus(t *testing.T) {
	expectRow(t, "kinds", 0, impl.KindRef, impl.KindOpt)
	expectRow(t, "ops", 1, impl.OpSend, impl.OpDrop, impl.OpRestart, impl.OpFetch, impl.OpFlip)
	expectRow(t, "codes", 1, impl.CodeText, impl.CodeWord, impl.CodeCount, impl.CodePlace, impl.CodeForm, impl.CodeRange, impl.CodeEmpty, impl.CodeKinds, impl.CodeFlips, impl.CodeFew, impl.CodeEqual)
	limits := []int{impl.MaxNodes, impl.MaxTicks, impl.MaxOrders, impl.MaxScript}
	if !slices.Equal(limits, []int{32, 6000, 500, 20000}) {
		t.Errorf("limits: %v", limits)
	}
}

func TestScriptOfEveryLine(t *testing.T) {
	src := "node ref 1 2 old 3\n" + "node opt 8 16 new 32\n" + "accept 1 b 7ff 12\n" + "\n" + "node opt 3 4 old 5\n" +
		"accept 0 x 1fffffff 0\n" + "accept 1 x 0 1\n" + "   \n" +
		"send 0 9999 b 7ff -\n" + "run 3\n" + "  send   1 0 x 1fffffff 00ff10a5  \n" + "ask 2 17 b 0 15\n" + "run 0\n" + "ask 2 18 x 1 0\n" +
		"drop 1 4\n" + "run 000004\n" + "restart 2\n" + "fetch 0\n" + "flip 1 20 30\n" + "flip 0 0 0\n" + "run 5"
	want := impl.Script{
		Setups: []impl.Setup{
			{Kind: impl.KindRef, Cfg: impl.Config{Boxes: 1, Fifo: 2, Policy: impl.PolicyOld, Events: 3}, Filters: []impl.Filter{{Ext: true, Mask: 0x1fffffff}}},
			{Kind: impl.KindOpt, Cfg: impl.Config{Boxes: 8, Fifo: 16, Policy: impl.PolicyNew, Events: 32}, Filters: []impl.Filter{{Mask: 0x7ff, Match: 0x12}, {Ext: true, Match: 1}}},
			{Kind: impl.KindOpt, Cfg: impl.Config{Boxes: 3, Fifo: 4, Policy: impl.PolicyOld, Events: 5}},
		},
		Orders: []impl.Order{
			{Op: impl.OpSend, Tag: 9999, F: impl.Frame{Id: 0x7ff}},
			{Tick: 3, Op: impl.OpSend, Node: 1, F: impl.Frame{Ext: true, Id: 0x1fffffff, Dlc: 4, Data: []uint8{0, 255, 16, 165}}},
			{Tick: 3, Op: impl.OpSend, Node: 2, Tag: 17, F: impl.Frame{Rtr: true, Dlc: 15}},
			{Tick: 3, Op: impl.OpSend, Node: 2, Tag: 18, F: impl.Frame{Ext: true, Id: 1, Rtr: true}},
			{Tick: 3, Op: impl.OpDrop, Node: 1, Tag: 4},
			{Tick: 7, Op: impl.OpRestart, Node: 2},
			{Tick: 7, Op: impl.OpFetch},
			{Tick: 7, Op: impl.OpFlip, Node: 1, From: 27, Count: 30},
			{Tick: 7, Op: impl.OpFlip, From: 7},
		},
		Ticks: 12,
	}
	for _, text := range []string{src, src + "\n", src + "\n\n  ", "\n" + src} {
		got := impl.ParseScript(text)
		if !sameScripts(got, want) {
			t.Errorf("%q:\n%+v, want\n%+v", text, got, want)
		}
		expectApart(t, "a script", scriptRegions(got)...)
		expectCode(t, text, 0, 0)
	}
}

func TestScriptTexts(t *testing.T) {
	for _, letter := range []string{"\t", "\r", "\x00", "\x1f", "\x7f", "\x80", "\xff", "é", "\ufffd", "\U0001F600"} {
		expectCode(t, letter, impl.CodeText, 0)
		expectCode(t, aNode+"run 1"+letter, impl.CodeText, 0)
		expectCode(t, letter+"\n"+aNode, impl.CodeText, 0)
		expectCode(t, "walk\n"+letter, impl.CodeText, 0)
	}
	expectCode(t, aNode+"~", impl.CodeWord, 2)
	expectCode(t, aNode+" ", 0, 0)
	for _, fill := range []string{" ", "\n"} {
		expectCode(t, aNode+strings.Repeat(fill, impl.MaxScript-len(aNode)), 0, 0)
		expectCode(t, aNode+strings.Repeat(fill, impl.MaxScript-len(aNode)+1), impl.CodeText, 0)
		expectCode(t, strings.Repeat(fill, impl.MaxScript), impl.CodeEmpty, 0)
		expectCode(t, strings.Repeat(fill, impl.MaxScript+1), impl.CodeText, 0)
	}
	expectCode(t, strings.Repeat("\n", impl.MaxScript-1)+"!", impl.CodeWord, impl.MaxScript)
}

func TestScriptWithoutNodes(t *testing.T) {
	for _, src := range []string{"", "\n", "  \n ", "run 1", "run 6000\n", "run 0\nrun 1\n"} {
		expectCode(t, src, impl.CodeEmpty, 0)
	}
}

// The last line counts with and without a newline behind it.
func TestScriptLastLine(t *testing.T) {
	for _, end := range []string{"", "\n", " ", "\n\n"} {
		expectCode(t, aNode+"run 5"+end, 0, 0)
		if s := impl.ParseScript(aNode + "run 5" + end); s.Ticks != 5 {
			t.Errorf("%q: %d ticks", end, s.Ticks)
		}
		expectCode(t, aNode+"run 6001"+end, impl.CodeRange, 2)
		expectCode(t, aNode+"\n\nrun"+end, impl.CodeCount, 4)
	}
}

func TestScriptFirstWords(t *testing.T) {
	for _, word := range []string{"walk", "Node", "nodes", "nod", "NODE", "0", "-", "ref", "run5", "send,", "#"} {
		expectCode(t, word, impl.CodeWord, 1)
		expectCode(t, aNode+"\n "+word+" 1 2 3\n", impl.CodeWord, 3)
	}
}

func TestScriptCounts(t *testing.T) {
	for name, forms := range slowForms() {
		for words := range 9 {
			src := name + strings.Repeat(" 1", words)
			if words != len(forms) {
				expectCode(t, src, impl.CodeCount, 1)
				expectCode(t, aNode+src, impl.CodeCount, 2)
			}
		}
	}
}

// Nodes and filters in any order, but none of them below anything else.
func TestScriptPlaces(t *testing.T) {
	accept := "accept 0 b 0 0\n"
	expectCode(t, aNode+accept+aNode+accept+"accept 1 b 1 1\n", 0, 0)
	expectCode(t, aNode+"\n  \n"+aNode+"\n"+accept+"run 1", 0, 0)
	for _, other := range []string{"run 0\n", "run 1\n", "send 0 1 b 1 -\n", "ask 0 1 b 1 0\n", "drop 0 1\n", "restart 0\n", "fetch 0\n", "flip 0 0 0\n"} {
		for _, late := range []string{aNode, accept} {
			expectCode(t, aNode+other+late, impl.CodePlace, 3)
			expectCode(t, aNode+accept+other+"\n"+other+late, impl.CodePlace, 6)
			expectCode(t, aNode+other+"walk", impl.CodeWord, 3)
		}
	}
	expectCode(t, "run 1\n"+aNode, impl.CodePlace, 2)
}

// goodLines has one line of each kind, below two nodes.
func goodLines() []string {
	return []string{"node opt 2 3 new 4", "accept 1 x 1f 1f", "send 1 5 x 1f 00ff", "ask 1 6 b 2a 8", "drop 1 5", "restart 1", "fetch 1", "flip 1 2 3", "run 9"}
}

func replaced(text string, at int, word string) string {
	words := wordsOf(text)
	words[at] = word
	return strings.Join(words, " ")
}

// Each word of each line in turn is something that may be of its kind or not, in range or not.
func TestScriptWords(t *testing.T) {
	tried := []string{
		"0", "1", "2", "3", "8", "9", "15", "16", "17", "32", "33", "00", "000001", "0000001", "999999", "1000000", "6000", "6001", "9999", "10000", "-1", "+1", "1.", "1e3", "0x1", "1_0",
		"a", "f", "g", "ff", "A", "7ff", "800", "7FF", "1fffffff", "20000000", "ffffffff", "00000001", "000000001", "fffffffff",
		"-", "--", "-0", "00ff", "0", "00f", "0g", "g0", "0011223344556677", "001122334455667788", "00112233445566778", "00 11", "0011223344556677g",
		"ref", "opt", "old", "new", "b", "x", "Ref", "refs", "re", "bx", "X", "!", "~", "\"",
	}
	met := map[int]int{}
	for _, good := range goodLines() {
		expectCode(t, aNode+aNode+good, 0, 0)
		for at := 1; at < len(wordsOf(good)); at++ {
			for _, word := range tried {
				src := aNode + aNode + replaced(good, at, word)
				s, want := impl.ParseScript(src), slowParse(src)
				if !sameScripts(s, want) {
					t.Errorf("%q: %+v, want %+v", src, s, want)
				}
				met[s.Code]++
			}
		}
	}
	for _, code := range []int{0, impl.CodeCount, impl.CodeForm, impl.CodeRange} {
		if met[code] < 10 {
			t.Errorf("code %d was met %d times", code, met[code])
		}
	}
}

// The kinds of words by hand, so that not both readers err alike.
func TestScriptForms(t *testing.T) {
	for _, c := range []struct {
		line string
		code int
	}{
		{"send 0 1 b 0 0011223344556677", 0}, {"send 0 1 b 0 001122334455667788", impl.CodeForm}, {"send 0 1 b 0 0", impl.CodeForm}, {"send 0 1 b 0 001", impl.CodeForm},
		{"send 0 1 b 0 0A", impl.CodeForm}, {"send 0 1 b 0 --", impl.CodeForm}, {"send 0 1 b 000007ff -", 0}, {"send 0 1 b 0000007ff -", impl.CodeForm},
		{"send 0 1 b 800 -", impl.CodeRange}, {"send 0 1 x 800 -", 0}, {"send 0 1 x 20000000 -", impl.CodeRange}, {"send 0 1 x ffffffff -", impl.CodeRange}, {"send 0 1 X 0 -", impl.CodeForm},
		{"send 0 9999 b 0 -", 0}, {"send 0 10000 b 0 -", impl.CodeRange}, {"send 0 0010000 b 0 -", impl.CodeForm}, {"send 00 1 b 0 -", 0}, {"send 1 1 b 0 -", impl.CodeRange}, {"send a 1 b 0 -", impl.CodeForm},
		{"ask 0 1 b 0 15", 0}, {"ask 0 1 b 0 16", impl.CodeRange}, {"ask 0 1 b 0 -", impl.CodeForm}, {"ask 0 10000 b 0 1", impl.CodeRange}, {"ask 0 1 b 0 f", impl.CodeForm},
		{"drop 0 9999", 0}, {"drop 0 10000", impl.CodeRange}, {"drop 1 0", impl.CodeRange}, {"drop 0 1000000", impl.CodeForm},
		{"restart 0", 0}, {"restart 1", impl.CodeRange}, {"fetch 0", 0}, {"fetch 1", impl.CodeRange}, {"fetch -", impl.CodeForm},
		{"flip 0 6000 6000", 0}, {"flip 0 6001 0", impl.CodeRange}, {"flip 0 0 6001", impl.CodeRange}, {"flip 1 0 0", impl.CodeRange}, {"flip 0 0 -1", impl.CodeForm},
		{"run 6000", 0}, {"run 6001", impl.CodeRange}, {"run 999999", impl.CodeRange}, {"run 1000000", impl.CodeForm}, {"run 1a", impl.CodeForm},
		{"accept 0 b 7ff 7ff", 0}, {"accept 0 b 800 0", impl.CodeRange}, {"accept 0 b 0 800", impl.CodeRange}, {"accept 0 x 1fffffff 1fffffff", 0}, {"accept 0 x 20000000 0", impl.CodeRange},
		{"accept 0 x 0 20000000", impl.CodeRange}, {"accept 1 b 0 0", impl.CodeRange}, {"accept 0 old 0 0", impl.CodeForm}, {"accept 0 b 0 -", impl.CodeForm}, {"accept 0 b 000000000 0", impl.CodeForm},
		{"node opt 8 16 new 32", 0}, {"node opt 9 16 new 32", impl.CodeRange}, {"node opt 8 17 new 32", impl.CodeRange}, {"node opt 8 16 new 33", impl.CodeRange},
		{"node opt 0 1 new 1", impl.CodeRange}, {"node opt 1 0 new 1", impl.CodeRange}, {"node opt 1 1 new 0", impl.CodeRange}, {"node o 1 1 new 1", impl.CodeForm}, {"node opt 1 1 1 1", impl.CodeForm}, {"node opt b 1 new 1", impl.CodeForm},
	} {
		at := 2
		if c.code == 0 {
			at = 0
		}
		expectCode(t, aNode+c.line, c.code, at)
		expectCode(t, aNode+c.line+"\n\n", c.code, at)
	}
}

func TestScriptLimits(t *testing.T) {
	nodes := strings.Repeat(aNode, impl.MaxNodes)
	expectCode(t, nodes, 0, 0)
	expectCode(t, nodes+"fetch 31", 0, 0)
	expectCode(t, nodes+"fetch 32", impl.CodeRange, 33)
	expectCode(t, nodes+aNode, impl.CodeRange, 33)

	filters := strings.Repeat("accept 0 b 1 1\n", impl.MaxFilters)
	expectCode(t, aNode+aNode+filters+strings.ReplaceAll(filters, "accept 0", "accept 1"), 0, 0)
	expectCode(t, aNode+filters+"accept 0 x 1 1\n", impl.CodeRange, 18)

	orders := strings.Repeat("fetch 0\n", impl.MaxOrders)
	expectCode(t, aNode+orders+"run 10\nrun 5990", 0, 0)
	expectCode(t, aNode+orders+"run 10\nfetch 0", impl.CodeRange, 503)
	expectCode(t, aNode+orders+"flip 0 0 0", impl.CodeRange, 502)

	expectCode(t, aNode+"run 6000\nfetch 0\nrun 0", 0, 0)
	expectCode(t, aNode+"run 5999\nrun 1\nrun 1", impl.CodeRange, 4)
	expectCode(t, aNode+"run 5999\nflip 0 6000 6000\nrun 2", impl.CodeRange, 4)
	if s := impl.ParseScript(aNode + "run 6000\nflip 0 6000 6000\n"); s.Orders[0].From != 12000 || s.Orders[0].Tick != 6000 {
		t.Errorf("a flip far ahead: %+v", s.Orders)
	}
}

// Of several faults on a line the one named first in the document is told; of several lines the first.
func TestScriptOrderOfFaults(t *testing.T) {
	for _, c := range []struct {
		src      string
		code, at int
	}{
		{"walk\t", impl.CodeText, 0},
		{"fetch 0\nwalk\n\x7f", impl.CodeText, 0},
		{"run 1\nNode arm 0 0", impl.CodeWord, 2},
		{"run 1\nnode arm 0 0", impl.CodeCount, 2},
		{"run 1\naccept 9 q 999999999", impl.CodeCount, 2},
		{"fetch", impl.CodeCount, 1},
		{"send 7 99999 b 800 - -", impl.CodeCount, 1},
		{"run 1\nnode arm 0 0 old 0", impl.CodePlace, 2},
		{"run 1\naccept 9 q 0 0", impl.CodePlace, 2},
		{"run 1\naccept 9 b 800 0", impl.CodePlace, 2},
		{"node arm 0 0 old 0", impl.CodeForm, 1},
		{"node ref 0 0 old x", impl.CodeForm, 1},
		{aNode + "accept 7 b 800 8000000000", impl.CodeForm, 2},
		{aNode + "send 7 99999 b 800 0", impl.CodeForm, 2},
		{aNode + "ask 7 99999 b 800 0x", impl.CodeForm, 2},
		{aNode + "flip 7 9999 -", impl.CodeForm, 2},
		{aNode + "drop 7 t", impl.CodeForm, 2},
		{aNode + "fetch 7\nwalk", impl.CodeRange, 2},
		{aNode + "run 6001\nrun\nnode\n", impl.CodeRange, 2},
		{"fetch 0", impl.CodeRange, 1},
		{"accept 0 b 0 0\n" + aNode, impl.CodeRange, 1},
		{"run 6001", impl.CodeRange, 1},
	} {
		expectCode(t, c.src, c.code, c.at)
	}
	many := aNode + strings.Repeat("fetch 0\n", impl.MaxOrders)
	expectCode(t, many+"fetch x", impl.CodeForm, 502)
	expectCode(t, strings.Repeat(aNode, impl.MaxNodes)+"node ref 1 1 older 1", impl.CodeForm, 33)
}

// spoil changes a text in one place.
func (d *dice) spoil(src string) string {
	at := d.roll(len(src) + 1)
	end := min(len(src), at+d.roll(3))
	put := []string{"", " ", "\n", "0", "1", "9", "a", "x", "-", "run 1\n", "node ref 1 1 old 1\n", "accept 0 b 0 0\n", "\t", "999999"}
	return src[:at] + put[d.roll(len(put))] + src[end:]
}

// Scripts by the dice, whole and spoiled, read a second time.
func TestScriptByTheDice(t *testing.T) {
	d := dice(61)
	met := map[int]int{}
	for range 400 {
		src := d.script(wish{nodes: 1 + d.roll(4), orders: 1 + d.roll(12), ticks: d.roll(500), flips: d.roll(3)})
		if s := impl.ParseScript(src); s.Code != 0 {
			t.Fatalf("code %d in line %d of\n%s", s.Code, s.Line, src)
		}
		for range 6 {
			got, want := impl.ParseScript(src), slowParse(src)
			if !sameScripts(got, want) {
				t.Fatalf("%s\nis %+v\nwant %+v", src, got, want)
			}
			expectApart(t, "a script", scriptRegions(got)...)
			met[got.Code]++
			src = d.spoil(src)
		}
	}
	for code := range impl.CodeEmpty {
		if met[code] < 5 {
			t.Errorf("code %d was met %d times", code, met[code])
		}
	}
}
