package tests

import (
	"slices"
	"strconv"
	"strings"
	"testing"

	"loop.example/s01647/impl"
)

// expectP13 answers the outcome that all texts of kinds lead to.
func expectP13(t *testing.T, src string, kinds []string) impl.Outcome {
	t.Helper()
	first := impl.RunAs(src, kinds[0])
	for _, other := range kinds[1:] {
		expectSame(t, "kinds "+strconv.Quote(other)+" for "+strconv.Quote(kinds[0]), src, impl.RunAs(src, other), first)
	}
	return first
}

// expectP16 counts by the words of the promise and answers how many nodes it could look at.
func expectP16(t *testing.T, src string, out impl.Outcome) int {
	t.Helper()
	looked := 0
	for node, final := range out.Finals {
		if final.Lost > 0 {
			continue
		}
		ordered := 0
		for _, o := range impl.ParseScript(src).Orders {
			if o.Node == node && o.Op == impl.OpSend {
				ordered++
			}
		}
		taken := ordered - len(eventsOf(out, node, impl.EvFull)) - len(eventsOf(out, node, impl.EvBad))
		ended := len(eventsOf(out, node, impl.EvSent)) + len(eventsOf(out, node, impl.EvAborted))
		if taken != ended+final.Held {
			t.Fatalf("node %d took %d frames, ended %d and holds %d:\n%s\n%+v", node, taken, ended, final.Held, src, out)
		}
		looked++
	}
	return looked
}

// runWishes are scripts of each sort: without flips, with some, with many, and long ones in which nodes go off and come home.
func runWishes() []wish {
	return []wish{
		{nodes: 1, orders: 8, ticks: 400},
		{nodes: 2, orders: 12, ticks: 500},
		{nodes: 2, orders: 16, ticks: 500, flips: 4, wide: true},
		{nodes: 3, orders: 30, ticks: 700, flips: 4, own: true, wide: true},
		{nodes: 3, orders: 30, ticks: 700, flips: 20},
		{nodes: 5, orders: 60, ticks: 900, flips: 10, own: true},
		{nodes: 2, orders: 200, ticks: 3000, flips: 150, wide: true},
		{nodes: 8, orders: 40, ticks: 400, flips: 3},
	}
}

func TestP13AndP16ByTheDice(t *testing.T) {
	d := dice(131313)
	met, looked := map[[2]int]int{}, 0
	for round := range 9 {
		for i, w := range runWishes() {
			src := d.script(w)
			out := expectP13(t, src, d.kindTexts(w.nodes))
			looked += expectP16(t, src, out)
			if round < 2 || i < 2 {
				expectSame(t, "the slow bus", src, out, slowRun(src, ""))
			}
			expectApart(t, "an outcome", outcomeRegions(out)...)
			for _, s := range out.Seen {
				met[[2]int{s.E.Kind, s.E.A * min(max(s.E.Kind-impl.EvMiss, 0), 1)}]++
			}
		}
	}
	for kind := impl.EvSent; kind <= impl.EvMiss; kind++ {
		if met[[2]int{kind}] == 0 {
			t.Errorf("no event of kind %d: %v", kind, met)
		}
	}
	for _, want := range [][2]int{
		{impl.EvError, impl.ErrBit}, {impl.EvError, impl.ErrStuff}, {impl.EvError, impl.ErrForm}, {impl.EvError, impl.ErrCrc}, {impl.EvError, impl.ErrAck}, {impl.EvError, impl.ErrArbStuff},
		{impl.EvOverload}, {impl.EvState, impl.StateActive}, {impl.EvState, impl.StatePassive}, {impl.EvState, impl.StateOff}, {impl.EvRestart, 0}, {impl.EvRestart, 1}, {impl.EvFetched, 0}, {impl.EvFetched, 1},
	} {
		if met[want] == 0 {
			t.Errorf("no event of kind %d with A %d: %v", want[0], want[1], met)
		}
	}
	if looked < 100 {
		t.Errorf("only %d nodes lost nothing", looked)
	}
}

// Long scripts in which nodes are driven off the bus, are asked to come back and have time to.
func TestP13AndP16OffAndHome(t *testing.T) {
	d := dice(161616)
	home := 0
	for range 4 {
		src := strings.Repeat("node opt 8 16 new 32\n", 2) + "node ref 8 16 new 32\n"
		for i := range 30 {
			src += frameLine(i%3, i, d.wishedFrame(wish{own: true}, i%3))
			src += scriptLine("flip", d.roll(2), d.roll(30), 60+d.roll(100)) + scriptLine("run", 30+d.roll(60))
		}
		src += "restart 0\nrestart 1\nrestart 2\n" + scriptLine("run", impl.MaxTicks-impl.ParseScript(src).Ticks)
		out := expectP13(t, src, d.kindTexts(3))
		expectP16(t, src, out)
		for node := range 3 {
			for _, s := range eventsOf(out, node, impl.EvState) {
				if s.E.A == impl.StateActive && s.Tick > 1400 {
					home++
				}
			}
		}
	}
	if home == 0 {
		t.Error("no node came home")
	}
}

// Every single flip, at every tick of a frame and behind it, at each of three nodes.
func TestP13AndP16EverySingleFlip(t *testing.T) {
	head := "node ref 1 4 old 16\nnode opt 1 4 old 16\nnode ref 1 4 old 16\nsend 0 1 b 7c1 f0\nsend 1 2 b 7c3 -\n"
	for node := range 3 {
		for tick := range 130 {
			src := head + scriptLine("flip", node, tick, 1) + "run 260\n"
			out := expectP13(t, src, []string{"rrr", "ooo", "ror"})
			if expectP16(t, src, out) != 3 {
				t.Fatalf("events were lost in\n%s", src)
			}
		}
	}
}

// Scripts that are refused are refused alike.
func TestP13OfFaultyScripts(t *testing.T) {
	d := dice(63)
	for range 60 {
		src := d.script(wish{nodes: 2, orders: 6, ticks: 60, flips: 1})
		for range 4 {
			src = d.spoil(src)
			s := impl.ParseScript(src)
			out := expectP13(t, src, d.kindTexts(len(s.Setups)))
			if out.Code != s.Code || out.Line != s.Line {
				t.Fatalf("%s\nis %+v", src, out)
			}
		}
	}
}

// stuffMarks says of each bit whether a hearer takes it for a stuff bit; "" if one of them breaks the rule.
func stuffMarks(stuffed string) string {
	marks := ""
	for i := range stuffed {
		ahead := stuffed[max(i-5, 0):i]
		switch {
		case ahead != "00000" && ahead != "11111":
			marks += "p"
		case ahead[0] == stuffed[i]:
			return ""
		default:
			marks += "s"
		}
	}
	return marks
}

// turnable are the places in an image that P18 speaks of: the named fields without their stuff bits.
func turnable(f impl.Frame) []int {
	image := impl.Encode(f)
	marks := stuffMarks(image[:len(image)-10])
	var out []int
	for _, span := range impl.Spans(f) {
		if !isOneOf(span.Field, impl.FieldIdA, impl.FieldIdB, impl.FieldRes, impl.FieldData, impl.FieldCrc) {
			continue
		}
		for at := span.From; at < span.From+span.Count; at++ {
			if marks[at] == 'p' {
				out = append(out, at)
			}
		}
	}
	return out
}

// keepsStuffing: turning the bits at these places creates and removes no stuff bit.
func keepsStuffing(f impl.Frame, places []int) bool {
	image := impl.Encode(f)
	stuffed := image[:len(image)-10]
	other := stuffed
	for _, at := range places {
		other = turned(other, at)
	}
	return stuffMarks(other) == stuffMarks(stuffed)
}

// expectP18 flips one hearer among so many nodes; it wants that nothing but the frame comes through, and that this does.
func expectP18(t *testing.T, f impl.Frame, nodes, hearer, start int, places []int) {
	t.Helper()
	src := ""
	for i := range nodes {
		src += scriptLine("node", []string{"ref", "opt"}[(i+start)%2], 1, 16, "old", 32)
	}
	src += scriptLine("run", start) + frameLine(0, 1, f)
	for _, at := range places {
		src += scriptLine("flip", hearer, at, 1)
	}
	src += "run 500\n"
	out := impl.RunAs(src, "")
	received := eventsOf(out, hearer, impl.EvReceived)
	for _, s := range received {
		if !sameFrames(s.E.F, f) {
			t.Fatalf("%s\nnode %d hears %+v, sent was %+v", src, hearer, s.E.F, f)
		}
	}
	first := start + len(impl.Encode(f))
	if len(received) != 1 || received[0].Tick < first || len(eventsOf(out, hearer, impl.EvOverrun)) > 0 || len(eventsOf(out, hearer, impl.EvError)) == 0 {
		t.Fatalf("%s\nnode %d: %+v", src, hearer, out.Seen)
	}
}

// Every one and every two bits of short frames.
func TestP18OneAndTwoBits(t *testing.T) {
	tried := 0
	for _, f := range []impl.Frame{{Id: 0x2aa, Dlc: 1, Data: []uint8{0x4b}}, {Ext: true, Id: 0x15555555, Rtr: true, Dlc: 5}} {
		places := turnable(f)
		for i, at := range places {
			for _, other := range places[i:] {
				chosen := slices.Compact([]int{at, other})
				if keepsStuffing(f, chosen) && (len(chosen) == 1 || (at+other)%3 == 0) {
					expectP18(t, f, 2+tried%2, 1, tried%4, chosen)
					tried++
				}
			}
		}
	}
	if tried < 100 {
		t.Errorf("only %d ways to flip", tried)
	}
}

// places are so many of a list, mostly near to each other.
func (d *dice) places(list []int, count int) []int {
	var out []int
	for at := d.roll(len(list)); len(out) < count; at = (at + 1 + d.roll(d.one(2, 8, len(list)))) % len(list) {
		if !slices.Contains(out, list[at]) {
			out = append(out, list[at])
		}
	}
	return out
}

func TestP18ByTheDice(t *testing.T) {
	d := dice(181818)
	count := map[int]int{}
	fields := map[int]int{}
	for i := range 2500 {
		f := d.wishedFrame(wish{}, 0)
		chosen := d.places(turnable(f), 1+i%5)
		if !keepsStuffing(f, chosen) {
			continue
		}
		nodes := 2 + d.roll(3)
		expectP18(t, f, nodes, 1+d.roll(nodes-1), d.roll(5), chosen)
		count[len(chosen)]++
		for _, span := range impl.Spans(f) {
			for _, at := range chosen {
				if in(at, span.From, span.From+span.Count-1) {
					fields[span.Field]++
				}
			}
		}
	}
	for bits := 1; bits <= 5; bits++ {
		if count[bits] < 20 {
			t.Errorf("%d bits flipped %d times", bits, count[bits])
		}
	}
	for _, field := range []int{impl.FieldIdA, impl.FieldIdB, impl.FieldRes, impl.FieldData, impl.FieldCrc} {
		if fields[field] < 10 {
			t.Errorf("field %d flipped %d times", field, fields[field])
		}
	}
}
