package tests

import (
	"runtime"
	"slices"
	"strconv"
	"strings"
	"sync"
	"testing"
	"time"

	"loop.example/s01647/impl"
)

// A frame of nothing but zeros has an image of fifty bits, with this wire of its own.
const (
	zeroImage = "000001000001000001000001000001000001" + "0000" + "1" + "1" + "1" + "1111111"
	pairHead  = "node ref 2 2 old 8\nnode opt 2 2 new 8\n"
)

// onWire is the image as it is seen on a bus: acknowledged.
func onWire(f impl.Frame) string {
	return asHeardBySender(f)
}

func ones(count int) string {
	return strings.Repeat("1", count)
}

func zeros(count int) string {
	return strings.Repeat("0", count)
}

// expectRun answers the outcome, once several texts of kinds and the slow bus have given the same.
func expectRun(t *testing.T, src string) impl.Outcome {
	t.Helper()
	nodes := len(impl.ParseScript(src).Setups)
	want := slowRun(src, "")
	for _, kinds := range []string{"", strings.Repeat("r", nodes), strings.Repeat("o", nodes)} {
		expectSame(t, "RunAs with "+strconv.Quote(kinds), src, impl.RunAs(src, kinds), want)
	}
	return want
}

func TestBusTwoFrames(t *testing.T) {
	if impl.Encode(impl.Frame{}) != zeroImage {
		t.Fatal("the image of the zero Frame")
	}
	out := expectRun(t, pairHead+"send 0 3 b 0 -\nrun 10\nsend 1 9 b 0 -\nrun 100\n")
	expectSeen(t, "two frames", out.Seen, [4]int{48, 1, impl.EvReceived, 0}, [4]int{49, 0, impl.EvSent, 3}, [4]int{101, 0, impl.EvReceived, 0}, [4]int{102, 1, impl.EvSent, 9})
	if wire := onWire(impl.Frame{}); out.Bus != wire+"111"+wire+"1111111" {
		t.Errorf("bus %q", out.Bus)
	}
	if want := []impl.Final{{Fifo: 1}, {Fifo: 1}}; !slices.Equal(out.Finals, want) {
		t.Errorf("finals %+v", out.Finals)
	}
}

// The lesser identifier goes first; the loser hears it and sends behind the gap.
func TestBusArbitration(t *testing.T) {
	low, high := impl.Frame{Id: 0x10, Dlc: 1, Data: []uint8{0xaa}}, impl.Frame{Id: 0x11, Dlc: 1, Data: []uint8{0x55}}
	out := expectRun(t, pairHead+frameLine(0, 1, high)+frameLine(1, 2, low)+"run 200\n")
	first, second := onWire(low), onWire(high)
	if out.Bus != first+"111"+second+ones(200-3-len(first)-len(second)) {
		t.Errorf("bus %q", out.Bus)
	}
	a, b := len(first), len(first)+3+len(second)
	expectSeen(t, "arbitration", out.Seen, [4]int{a - 2, 0, impl.EvReceived, 0}, [4]int{a - 1, 1, impl.EvSent, 2}, [4]int{b - 2, 1, impl.EvReceived, 0}, [4]int{b - 1, 0, impl.EvSent, 1})
}

// Two nodes that send the same field and other data both see a bit error where the data part, at the same tick.
func TestBusOneArbitrationField(t *testing.T) {
	a, b := impl.Frame{Id: 5, Dlc: 1, Data: []uint8{0x3c}}, impl.Frame{Id: 5, Dlc: 1, Data: []uint8{0x34}}
	src := pairHead + frameLine(0, 1, a) + frameLine(1, 1, b) + "run 40\n"
	out := expectRun(t, src)
	parts := 0
	for impl.Encode(a)[parts] == impl.Encode(b)[parts] {
		parts++
	}
	if len(out.Seen) == 0 || out.Seen[0].Tick != parts || out.Seen[0].Node != 0 || out.Seen[0].E.A != impl.ErrBit || out.Seen[0].E.B != 1 {
		t.Errorf("parting at %d: %+v", parts, out.Seen)
	}
	if impl.Forecast(src).Code != impl.CodeEqual {
		t.Error("a forecast of equal fields")
	}
	same := expectRun(t, pairHead+frameLine(0, 1, a)+frameLine(1, 1, a)+"run 200\n")
	if len(eventsOf(same, 0, impl.EvReceived)) != 0 || same.Finals[0].Tec == 0 {
		t.Errorf("nobody is left to acknowledge: %+v", same)
	}
}

// A third node acknowledges: both senders of one frame are told that it was sent, at one tick.
func TestBusOneFrameTwice(t *testing.T) {
	out := expectRun(t, pairHead+"node ref 1 1 old 8\nsend 0 1 b 7 01\nsend 1 2 b 7 01\nrun 80\n")
	sent := len(impl.Encode(impl.Frame{Id: 7, Dlc: 1, Data: []uint8{1}})) - 1
	expectSeen(t, "one frame twice", out.Seen, [4]int{sent - 1, 2, impl.EvReceived, 0}, [4]int{sent, 0, impl.EvSent, 1}, [4]int{sent, 1, impl.EvSent, 2})
}

// Orders at tick Ticks are carried out and their events told, but no bit passes for them.
func TestBusOrdersAtTheEnd(t *testing.T) {
	out := expectRun(t, pairHead+"run 4\nsend 0 1 b 0 -\nsend 0 1 b 1 -\nsend 0 2 b 1 -\nsend 0 3 b 1 -\ndrop 0 2\nfetch 1\nrestart 1\ndrop 1 4\n")
	expectSeen(t, "the end", out.Seen, [4]int{4, 0, impl.EvBad, 1}, [4]int{4, 0, impl.EvFull, 3}, [4]int{4, 0, impl.EvAborted, 2}, [4]int{4, 1, impl.EvFetched, 0}, [4]int{4, 1, impl.EvRestart, 0}, [4]int{4, 1, impl.EvMiss, 4})
	if out.Bus != "1111" || !slices.Equal(out.Finals, []impl.Final{{Held: 1}, {}}) {
		t.Errorf("%+v", out)
	}
	out = expectRun(t, pairHead+"fetch 1\nsend 1 9999 b 0 -\nfetch 0\n")
	expectSeen(t, "no ticks", out.Seen, [4]int{0, 0, impl.EvFetched, 0}, [4]int{0, 1, impl.EvFetched, 0})
	if out.Bus != "" || out.Finals[1].Held != 1 {
		t.Errorf("no ticks: %+v", out)
	}
	out = expectRun(t, pairHead)
	if out.Bus != "" || len(out.Seen) != 0 || !slices.Equal(out.Finals, []impl.Final{{}, {}}) {
		t.Errorf("nothing to do: %+v", out)
	}
}

// An order of a tick comes ahead of that tick's bit.
func TestBusOrdersOfATick(t *testing.T) {
	out := expectRun(t, pairHead+"run 5\nsend 0 1 b 0 -\nrun 0\nrun 47\nfetch 1\nrun 1\nfetch 1\nrun 1\nfetch 1\nrun 9\n")
	if !strings.HasPrefix(out.Bus, "11111"+onWire(impl.Frame{})) {
		t.Errorf("bus %q", out.Bus)
	}
	expectSeen(t, "fetch", out.Seen, [4]int{52, 1, impl.EvFetched, 0}, [4]int{53, 1, impl.EvFetched, 0}, [4]int{53, 1, impl.EvReceived, 0}, [4]int{54, 0, impl.EvSent, 1}, [4]int{54, 1, impl.EvFetched, 1})
}

// The drop of a frame that is losing: at the tick where it loses and before, it is told where it loses; behind that, at once.
func TestBusAbortOfALosingFrame(t *testing.T) {
	low, high := impl.Frame{Id: 0x123}, impl.Frame{Id: 0x127}
	loses := 0
	for impl.Encode(low)[loses] == impl.Encode(high)[loses] {
		loses++
	}
	for tick := range loses + 5 {
		src := pairHead + frameLine(0, 1, high) + frameLine(1, 2, low) + scriptLine("run", tick) + "drop 0 1\n" + scriptLine("run", 120-tick)
		told := max(tick, loses)
		if tick == 0 {
			told = 0
		}
		out := expectRun(t, src)
		expectSeen(t, "dropped at "+strconv.Itoa(tick), eventsOf(out, 0, impl.EvAborted), [4]int{told, 0, impl.EvAborted, 1})
		if len(eventsOf(out, 0, impl.EvSent)) != 0 || out.Finals[0].Held != 0 {
			t.Errorf("dropped at %d: %+v", tick, out)
		}
		expectForecast(t, src)
	}
}

// A frame that wins is sent, its drop asked for or not.
func TestBusAbortOfAWinningFrame(t *testing.T) {
	for _, tick := range []int{1, 20, 48, 49} {
		src := pairHead + "send 0 1 b 0 -\n" + scriptLine("run", tick) + "drop 0 1\nrun 60\n"
		out := expectRun(t, src)
		expectSeen(t, "dropped at "+strconv.Itoa(tick), out.Seen, [4]int{48, 1, impl.EvReceived, 0}, [4]int{49, 0, impl.EvSent, 1})
		expectForecast(t, src)
	}
	expectSeen(t, "too late", expectRun(t, pairHead+"send 0 1 b 0 -\nrun 50\ndrop 0 1\nrun 1\n").Seen, [4]int{48, 1, impl.EvReceived, 0}, [4]int{49, 0, impl.EvSent, 1}, [4]int{50, 0, impl.EvMiss, 1})
}

func TestBusFlips(t *testing.T) {
	quiet := expectRun(t, pairHead+"run 40\n")
	start := expectRun(t, pairHead+"flip 1 2 1\nrun 40\n")
	expectSeen(t, "a false start", start.Seen, [4]int{8, 1, impl.EvError, impl.ErrStuff}, [4]int{14, 0, impl.EvError, impl.ErrStuff})
	if start.Bus != ones(9)+zeros(12)+ones(19) || start.Finals[0].Rec != 1 || start.Finals[1].Rec != 9 {
		t.Errorf("a false start: %+v", start)
	}
	for _, c := range []struct {
		lines string
		want  impl.Outcome
	}{
		{"flip 1 2 1\nflip 1 2 1\nrun 40\n", quiet},
		{"flip 1 2 0\nrun 40\n", quiet},
		{"flip 1 2 0\nflip 1 2 1\nrun 40\n", start},
		{"flip 1 2 1\nflip 1 2 1\nflip 1 2 1\nrun 40\n", start},
		{"flip 1 1 2\nflip 1 1 1\nrun 40\n", start},
		{"flip 1 1 1\nflip 1 1 2\nrun 40\n", start},
		{"flip 1 2 2\nflip 1 3 5\nflip 1 4 4\nrun 40\n", start},
		{"flip 1 0 6000\nflip 1 0 2\nflip 1 3 6000\nflip 1 6000 3\nrun 40\n", start},
		{"flip 1 2 1\nrun 1\nflip 1 0 1\nflip 1 0 1\nrun 39\n", start},
		{"run 2\nflip 1 0 1\nrun 38\n", start},
		{"run 1\nflip 1 1 1\nrun 1\nrun 38\n", start},
		{"flip 1 2 1\nrun 2\nflip 1 0 1\nrun 38\n", quiet},
		{"flip 0 40 6000\nflip 1 40 1\nrun 40\n", quiet},
		{"run 40\nflip 1 0 1\n", quiet},
	} {
		expectSame(t, "flips", c.lines, expectRun(t, pairHead+c.lines), c.want)
	}
	other := expectRun(t, pairHead+"flip 0 2 1\nrun 40\n")
	expectSeen(t, "a false start of the other", other.Seen, [4]int{8, 0, impl.EvError, impl.ErrStuff}, [4]int{14, 1, impl.EvError, impl.ErrStuff})
}

// Off the bus, as it hears none of its own dominant bits, and home again by a restart.
func TestBusOffAndHome(t *testing.T) {
	src := pairHead + "send 0 1 b 0 -\nflip 0 1 400\nrun 600\nrestart 0\nrun 2000\nsend 0 2 b 1 -\nrun 400\n"
	out := expectRun(t, src)
	var states []int
	for _, s := range eventsOf(out, 0, impl.EvState) {
		states = append(states, s.E.A)
	}
	if !slices.Equal(states, []int{impl.StatePassive, impl.StateOff, impl.StateActive}) {
		t.Fatalf("states %v", states)
	}
	restart := eventsOf(out, 0, impl.EvRestart)
	home := eventsOf(out, 0, impl.EvState)[2].Tick
	if len(restart) != 1 || restart[0].E.A != 1 || home < 600+impl.RecoverRuns*impl.RecoverBits-1 {
		t.Errorf("restart %+v, home at %d", restart, home)
	}
	sent := eventsOf(out, 0, impl.EvSent)
	if len(sent) != 2 || sent[0].E.A != 1 || sent[0].Tick < home || out.Finals[0].Tec != 0 {
		t.Errorf("sent %+v, finals %+v", sent, out.Finals)
	}
}

// Alone, nobody acknowledges: it becomes passive and keeps trying.
func TestBusOneNode(t *testing.T) {
	out := expectRun(t, "node opt 1 1 old 4\nsend 0 7 x 1234567 0011\nrun 6000\n")
	if f := out.Finals[0]; f.State != impl.StatePassive || f.Tec != 128 || f.Held != 1 || len(eventsOf(out, 0, impl.EvSent)) != 0 {
		t.Errorf("alone: %+v", f)
	}
	if len(out.Bus) != impl.MaxTicks {
		t.Errorf("%d letters", len(out.Bus))
	}
}

// A queue of one: what doesn't fit in a tick is lost and counted.
func TestBusFullQueues(t *testing.T) {
	out := expectRun(t, "node ref 1 1 old 1\nnode opt 1 1 new 1\nfetch 0\nfetch 0\nfetch 0\nrun 1\nsend 0 1 b 0 -\nsend 0 2 b 0 -\nrun 53\nsend 0 1 b 1 -\nrun 60\n")
	end := 54 + len(impl.Encode(impl.Frame{Id: 1}))
	expectSeen(t, "full", out.Seen, [4]int{0, 0, impl.EvFetched, 0}, [4]int{1, 0, impl.EvFull, 2}, [4]int{49, 1, impl.EvReceived, 0}, [4]int{50, 0, impl.EvSent, 1}, [4]int{end - 2, 1, impl.EvOverrun, 0}, [4]int{end - 1, 0, impl.EvSent, 1})
	if out.Finals[0].Lost != 2 || out.Finals[1].Lost != 1 || out.Finals[1].Fifo != 1 {
		t.Errorf("finals %+v", out.Finals)
	}
}

func TestBusFilters(t *testing.T) {
	src := "node ref 4 4 old 8\nnode opt 1 4 old 8\nnode ref 1 4 old 8\naccept 1 b 7f0 120\naccept 1 x 1 1\naccept 2 x 0 0\n" +
		"send 0 1 b 123 -\nsend 0 2 b 133 -\nsend 0 3 x 3 -\nsend 0 4 x 2 -\nrun 400\n"
	out := expectRun(t, src)
	var got [][2]int
	for _, s := range out.Seen {
		if s.E.Kind == impl.EvReceived {
			got = append(got, [2]int{s.Node, int(s.E.F.Id)})
		}
	}
	if !slices.Equal(got, [][2]int{{2, 2}, {1, 3}, {2, 3}, {1, 0x123}}) {
		t.Errorf("received %v", got)
	}
	expectForecast(t, src)
}

func TestBusAtItsLimits(t *testing.T) {
	src := ""
	for i := range impl.MaxNodes {
		src += scriptLine("node", []string{"ref", "opt"}[i%2], impl.MaxBoxes, impl.MaxFifo, "new", impl.MaxQueue)
	}
	orders := impl.MaxOrders
	for i := range 8 * impl.MaxNodes {
		f := impl.Frame{Ext: true, Id: uint32(i%impl.MaxNodes + i*4096), Dlc: 8, Data: []uint8{0, 0, 0, 0, 255, 255, 255, 255}}
		src += frameLine(i%impl.MaxNodes, i, f)
		orders--
	}
	src += "run 5999\n" + strings.Repeat("fetch 31\n", orders) + "run 1\n"
	if s := impl.ParseScript(src); s.Code != 0 || len(s.Orders) != impl.MaxOrders || s.Ticks != impl.MaxTicks {
		t.Fatalf("code %d in line %d, %d orders", s.Code, s.Line, len(s.Orders))
	}
	out := impl.RunAs(src, "")
	expectSame(t, "all quick", "", impl.RunAs(src, strings.Repeat("o", impl.MaxNodes)), out)
	expectP14(t, src, out)
	expectP16(t, src, out)
	if len(out.Bus) != impl.MaxTicks || out.Finals[31].Lost == 0 || out.Finals[0].Fifo != impl.MaxFifo {
		t.Errorf("%d letters, finals %+v", len(out.Bus), out.Finals)
	}
	expectP15(t, out)
}

func TestBusKinds(t *testing.T) {
	src := pairHead + "run 3\n"
	for _, kinds := range []string{"r", "rrr", "ro ", "R0", "rO", "r0", "rx", "xr", "  ", "é", "\xff\xff", "r\xff", "\x00\x00", "rorororororo", "reference"} {
		expectSame(t, "kinds "+strconv.Quote(kinds), src, impl.RunAs(src, kinds), impl.Outcome{Code: impl.CodeKinds})
	}
	for _, kinds := range []string{"", "rr", "ro", "or", "oo"} {
		if out := impl.RunAs(src, kinds); out.Code != 0 || out.Bus != "111" {
			t.Errorf("kinds %q: %+v", kinds, out)
		}
	}
}

// A script that is refused gives its code and line, whatever the kinds.
func TestBusWrongScripts(t *testing.T) {
	for _, src := range []string{"", "\t", "walk", "run", "run 1\n" + aNode, "node arm 1 1 old 1", aNode + "run 6001", aNode + "\n\nsend 0 1 b 800 -", strings.Repeat(" ", impl.MaxScript+1)} {
		s := impl.ParseScript(src)
		want := impl.Outcome{Code: s.Code, Line: s.Line}
		if s.Code == 0 {
			t.Fatalf("%q has no fault", src)
		}
		for _, kinds := range []string{"", "r", "x", "rrrr"} {
			expectSame(t, "RunAs", src, impl.RunAs(src, kinds), want)
		}
		expectSame(t, "Forecast", src, impl.Forecast(src), want)
	}
}

// One answer comes, however the goroutines run: few or many at a time, alone or beside other runs.
func TestBusUnderEverySchedule(t *testing.T) {
	d := dice(62)
	src := d.script(wish{nodes: 5, orders: 60, ticks: 900, flips: 12})
	want := slowRun(src, "")
	defer runtime.GOMAXPROCS(runtime.GOMAXPROCS(0))
	for _, most := range []int{1, 2, 3, 16} {
		runtime.GOMAXPROCS(most)
		var runs sync.WaitGroup
		outs := make([]impl.Outcome, 8)
		for i := range outs {
			runs.Go(func() { outs[i] = impl.RunAs(src, []string{"", "rrrrr", "ooooo", "roror"}[i%4]) })
		}
		runs.Wait()
		for _, out := range outs {
			expectSame(t, "beside others", src, out, want)
		}
	}
}

// All goroutines have ended when the call answers; the runtime may need a moment to take note of it.
func TestBusLeavesNoGoroutine(t *testing.T) {
	before := runtime.NumGoroutine()
	for range 20 {
		impl.RunAs(strings.Repeat(aNode, impl.MaxNodes)+"fetch 3\nrun 5\n", "")
		impl.RunAs(aNode, "x")
		impl.RunAs(pairHead, "")
	}
	for range 100 {
		if runtime.NumGoroutine() <= before {
			return
		}
		time.Sleep(10 * time.Millisecond)
	}
	t.Errorf("%d goroutines, %d before", runtime.NumGoroutine(), before)
}

func TestBusAnswersNewMemory(t *testing.T) {
	src := pairHead + "node ref 1 3 new 9\nsend 0 1 b 1 0102030405060708\nsend 1 1 b 2 0102030405060708\nrun 300\nfetch 2\nfetch 1\nfetch 0\n"
	a, b := impl.RunAs(src, ""), impl.RunAs(src, "")
	expectApart(t, "two runs", append(outcomeRegions(a), outcomeRegions(b)...)...)
	c := impl.Forecast(src)
	expectApart(t, "a run and a forecast", append(outcomeRegions(a), outcomeRegions(c)...)...)
	if len(a.Seen) < 6 || !slices.EqualFunc(a.Seen, c.Seen, sameSeen) {
		t.Errorf("seen %+v", a.Seen)
	}
}
