package tests

import (
	"slices"
	"testing"

	"loop.example/s01647/impl"
)

func TestForecastCodes(t *testing.T) {
	for _, c := range []struct {
		src        string
		code, line int
	}{
		{"", impl.CodeEmpty, 0},
		{"\t", impl.CodeText, 0},
		{"\nwalk", impl.CodeWord, 2},
		{aNode + "run", impl.CodeCount, 2},
		{"run 1\n" + aNode, impl.CodePlace, 2},
		{aNode + "flip 0 0 x", impl.CodeForm, 2},
		{aNode + "flip 0 0 1\nrun 6001", impl.CodeRange, 3},
		{aNode + "run 1", impl.CodeFew, 0},
		{aNode, impl.CodeFew, 0},
		{aNode + "flip 0 0 1\n", impl.CodeFlips, 0},
		{aNode + "flip 0 0 0\n", impl.CodeFew, 0},
		{pairHead + "flip 0 0 0\nflip 1 6000 0\nrun 9\n", 0, 0},
		{pairHead + "flip 0 0 0\nrun 9\nflip 1 6000 1\n", impl.CodeFlips, 0},
		{pairHead + "flip 0 0 1\nflip 0 0 1\nrun 9\n", impl.CodeFlips, 0},
		{pairHead + "send 0 1 b 5 -\nsend 1 1 b 5 -\nflip 0 0 1\nrun 9\n", impl.CodeFlips, 0},
		{pairHead + "send 0 1 b 5 -\nsend 1 1 b 5 -\nrun 9\n", impl.CodeEqual, 0},
		{pairHead + "send 0 1 b 5 -\nsend 1 1 b 5 0102\nrun 9\n", impl.CodeEqual, 0},
		{pairHead + "send 0 1 b 5 -\nsend 1 1 b 5 -\n", 0, 0},
		{pairHead + "run 9\nsend 0 1 b 5 -\nsend 1 1 b 5 -\n", 0, 0},
		{pairHead + "send 0 1 b 5 -\nask 1 1 b 5 0\nrun 9\n", 0, 0},
		{pairHead + "send 0 1 b 5 -\nsend 1 1 x 140000 -\nrun 9\n", 0, 0},
		{pairHead + "send 0 1 b 5 -\nsend 1 1 b 5 -\ndrop 1 1\nrun 9\n", 0, 0},
		{pairHead, 0, 0},
	} {
		out := expectForecast(t, c.src)
		if out.Code != c.code || out.Line != c.line {
			t.Errorf("Forecast(%q): code %d, line %d, want %d, %d", c.src, out.Code, out.Line, c.code, c.line)
		}
		if c.code != 0 {
			expectSame(t, "nothing else", c.src, out, impl.Outcome{Code: c.code, Line: c.line})
		}
	}
}

// Two equal fields matter only where they are the least, and only when they are on the wire at once.
func TestForecastEqualFields(t *testing.T) {
	three := pairHead + "node ref 2 2 old 8\n"
	pair := "send 0 1 b 5 -\nsend 1 1 b 5 -\n"
	free := len(impl.Encode(impl.Frame{Id: 4})) + 3
	if out := expectForecast(t, three+pair+"send 2 1 b 4 -\n"+scriptLine("run", free)); out.Code != 0 {
		t.Errorf("behind a lesser one: %+v", out)
	}
	if out := expectForecast(t, three+pair+"send 2 1 b 4 -\n"+scriptLine("run", free+1)); out.Code != impl.CodeEqual {
		t.Errorf("then in a round of their own: %+v", out)
	}
	if out := expectForecast(t, three+pair+"send 2 1 b 6 -\nrun 1\n"); out.Code != impl.CodeEqual {
		t.Errorf("ahead of a greater one: %+v", out)
	}
	late := "send 0 1 b 5 -\nrun 1\nsend 1 1 b 5 -\nrun 200\n"
	if out := expectForecast(t, three+late); out.Code != 0 || len(eventsOf(out, 1, impl.EvSent)) != 1 {
		t.Errorf("one behind the other: %+v", out)
	}
	expectP14(t, three+late, impl.RunAs(three+late, ""))
	twice := "send 0 1 b 5 -\nsend 0 2 b 5 -\nrun 200\n"
	if out := expectForecast(t, three+twice); out.Code != 0 || len(eventsOf(out, 0, impl.EvSent)) != 2 {
		t.Errorf("both of one node: %+v", out)
	}
	expectP14(t, three+twice, impl.RunAs(three+twice, ""))
}

func TestForecastTwoFrames(t *testing.T) {
	src := pairHead + "send 0 3 b 0 -\nrun 10\nsend 1 9 b 0 -\nrun 100\n"
	out := expectForecast(t, src)
	expectSeen(t, "two frames", out.Seen, [4]int{48, 1, impl.EvReceived, 0}, [4]int{49, 0, impl.EvSent, 3}, [4]int{101, 0, impl.EvReceived, 0}, [4]int{102, 1, impl.EvSent, 9})
	if out.Bus != "" || !slices.Equal(out.Finals, []impl.Final{{Fifo: 1}, {Fifo: 1}}) {
		t.Errorf("%+v", out)
	}
}

// Ticks cuts the image off at each place in turn: what would come at Ticks or later does not come.
func TestForecastCutOff(t *testing.T) {
	low, high := impl.Frame{Id: 0x20, Dlc: 1, Data: []uint8{7}}, impl.Frame{Id: 0x24, Dlc: 1, Data: []uint8{8}}
	length := len(impl.Encode(low))
	for ticks := range length + 10 {
		src := pairHead + frameLine(0, 1, high) + frameLine(1, 2, low) + scriptLine("run", ticks) + "drop 0 1\nsend 1 7 b 1 -\nfetch 0\n"
		out := expectForecast(t, src)
		expectP14(t, src, impl.RunAs(src, ""))
		if heard := len(eventsOf(out, 0, impl.EvReceived)) == 1; heard != (ticks >= length-1) {
			t.Errorf("%d ticks: heard %v", ticks, heard)
		}
		if sent := len(eventsOf(out, 1, impl.EvSent)) == 1; sent != (ticks >= length) {
			t.Errorf("%d ticks: sent %v", ticks, sent)
		}
	}
}

// A frame that comes in the gap, at its end and behind it begins where the bus is free.
func TestForecastGap(t *testing.T) {
	for at := 45; at < 60; at++ {
		src := pairHead + "send 0 1 b 0 -\n" + scriptLine("run", at) + "send 1 2 b 0 -\nrun 120\n"
		out := expectForecast(t, src)
		expectP14(t, src, impl.RunAs(src, ""))
		begins := max(at, 53)
		expectSeen(t, "behind the gap", eventsOf(out, 1, impl.EvSent), [4]int{begins + 49, 1, impl.EvSent, 2})
	}
}

// Losers of several sorts: in the base identifier, by the remote bit, against an extended frame, in the second identifier.
func TestForecastLosers(t *testing.T) {
	src := "node ref 2 8 old 8\nnode opt 2 8 old 8\nnode ref 2 8 old 8\nnode opt 2 8 old 8\nnode opt 2 8 new 8\n" +
		"ask 0 1 b 100 3\nsend 1 2 b 100 01\nsend 2 3 x 4000000 -\nsend 3 4 x 4000001 -\nsend 4 5 b 101 -\n" +
		"run 1\ndrop 2 3\nrun 500\nrestart 3\nfetch 0\nfetch 4\nrun 10\n"
	out := expectForecast(t, src)
	expectP14(t, src, impl.RunAs(src, ""))
	var tags []int
	for _, s := range out.Seen {
		if s.E.Kind == impl.EvSent {
			tags = append(tags, s.E.A)
		}
	}
	if !slices.Equal(tags, []int{2, 1, 4, 5}) || len(eventsOf(out, 2, impl.EvAborted)) != 1 {
		t.Errorf("sent %v, seen %+v", tags, out.Seen)
	}
	expectSeen(t, "restart", eventsOf(out, 3, impl.EvRestart), [4]int{501, 3, impl.EvRestart, 0})
}

// Queues, FIFOs and boxes that are full.
func TestForecastFull(t *testing.T) {
	src := "node ref 1 1 old 1\nnode opt 2 1 new 1\nnode opt 1 2 new 2\n" +
		"send 0 1 b 1 -\nsend 0 2 b 2 -\nsend 0 1 b 3 -\nsend 1 1 b 4 -\nsend 1 2 b 4 aa\nsend 1 3 b 4 -\nrun 200\nfetch 2\nfetch 2\nfetch 2\nrun 1\n"
	out := expectForecast(t, src)
	expectP14(t, src, impl.RunAs(src, ""))
	if out.Finals[0].Lost == 0 || out.Finals[1].Lost != 0 || out.Finals[2].Lost == 0 {
		t.Errorf("finals %+v", out.Finals)
	}
}
