package tests

import (
	"slices"
	"testing"

	"loop.example/s01647/impl"
)

// expectP14 wants a script that can be forecast.
func expectP14(t *testing.T, src string, ran impl.Outcome) {
	t.Helper()
	told := impl.Forecast(src)
	if told.Code != 0 || ran.Code != 0 {
		t.Fatalf("codes %d and %d of\n%s", told.Code, ran.Code, src)
	}
	ran.Bus = ""
	expectSame(t, "the forecast for the run", src, told, ran)
}

// expectP15 wants the outcome of a script that can be forecast; it answers how many frames were sent.
func expectP15(t *testing.T, ran impl.Outcome) int {
	t.Helper()
	if slices.ContainsFunc(ran.Finals, func(f impl.Final) bool { return f.Lost > 0 }) {
		return 0
	}
	var sent []impl.Seen
	for _, s := range ran.Seen {
		if s.E.Kind == impl.EvSent {
			sent = append(sent, s)
		}
	}
	slots := impl.Sniff(ran.Bus)
	same := slices.EqualFunc(slots, sent, func(slot impl.Slot, s impl.Seen) bool {
		return slot.At+slot.Len-1 == s.Tick && sameFrames(slot.F, s.E.F)
	})
	if !same {
		t.Fatalf("heard %+v\nsent %+v", slots, sent)
	}
	return len(sent)
}

// untouched are the sends whose tag their node has no other send and no drop of.
func untouched(s impl.Script) []impl.Order {
	type name struct{ node, tag int }
	uses := map[name]int{}
	for _, o := range s.Orders {
		if o.Op == impl.OpSend || o.Op == impl.OpDrop {
			uses[name{o.Node, o.Tag}]++
		}
	}
	var out []impl.Order
	for _, o := range s.Orders {
		if o.Op == impl.OpSend && uses[name{o.Node, o.Tag}] == 1 {
			out = append(out, o)
		}
	}
	return out
}

// notAbove is the k of the promise: the frame itself is left out.
func notAbove(s impl.Script, f impl.Frame) int {
	count := -1
	for _, o := range s.Orders {
		if o.Op == impl.OpSend && impl.Arb(o.F) <= impl.Arb(f) {
			count++
		}
	}
	return count
}

func hasTag(seen []impl.Seen, tag int) bool {
	return slices.ContainsFunc(seen, func(s impl.Seen) bool { return s.E.A == tag })
}

// expectP17 answers how many frames had to be sent by their tick.
func expectP17(t *testing.T, src string, ran impl.Outcome) int {
	t.Helper()
	s := impl.ParseScript(src)
	looked := 0
	for _, o := range untouched(s) {
		refused := hasTag(eventsOf(ran, o.Node, impl.EvFull), o.Tag) || hasTag(eventsOf(ran, o.Node, impl.EvBad), o.Tag)
		latest := o.Tick + 160*(notAbove(s, o.F)+2)
		if refused || latest >= s.Ticks || ran.Finals[o.Node].Lost > 0 {
			continue
		}
		looked++
		intime := slices.ContainsFunc(eventsOf(ran, o.Node, impl.EvSent), func(s impl.Seen) bool {
			return s.E.A == o.Tag && s.Tick <= latest && sameFrames(s.E.F, o.F)
		})
		if !intime {
			t.Fatalf("%+v is not sent by tick %d:\n%s\n%+v", o, latest, src, ran.Seen)
		}
	}
	return looked
}

// forecastWishes are scripts without flips: with losers, filters, full FIFOs, queues and boxes.
func forecastWishes() []wish {
	return []wish{
		{nodes: 2, orders: 10, ticks: 600, own: true, wide: true},
		{nodes: 2, orders: 40, ticks: 900, own: true},
		{nodes: 3, orders: 25, ticks: 1500, own: true, wide: true},
		{nodes: 4, orders: 12, ticks: 3000, own: true, wide: true},
		{nodes: 6, orders: 60, ticks: 1200, own: true},
		{nodes: 9, orders: 30, ticks: 800, own: true, wide: true},
		{nodes: 2, orders: 6, ticks: 500, near: true, wide: true},
		{nodes: 3, orders: 8, ticks: 300, near: true},
	}
}

func TestP14P15P17ByTheDice(t *testing.T) {
	d := dice(141517)
	codes, sent, due := map[int]int{}, 0, 0
	for range 20 {
		for _, w := range forecastWishes() {
			src := d.script(w)
			told := expectForecast(t, src)
			if codes[told.Code]++; told.Code != 0 {
				continue
			}
			ran := impl.RunAs(src, d.kindTexts(w.nodes)[d.one(0, 2, 3)])
			expectP14(t, src, ran)
			sent += expectP15(t, ran)
			due += expectP17(t, src, ran)
			expectApart(t, "a forecast", outcomeRegions(told)...)
		}
	}
	if codes[0] < 120 || codes[impl.CodeEqual] < 5 || sent < 500 || due < 100 {
		t.Errorf("codes %v, %d frames sent, %d due", codes, sent, due)
	}
}

// The frames with the longest images, all waiting at once, and one with the greatest field that comes last.
func TestP17TheLastOfMany(t *testing.T) {
	src := ""
	for range 4 {
		src += scriptLine("node", "opt", 8, 16, "new", 32)
	}
	src += frameLine(0, 100, impl.Frame{Ext: true, Id: 0x1ffffffc, Dlc: 8, Data: make([]uint8, 8)})
	for i := range 28 {
		node := i % 4
		src += frameLine(node, i, impl.Frame{Ext: true, Id: uint32(i/4*4*1024 + node), Dlc: 8, Data: make([]uint8, 8)})
		if node == 3 {
			src += "run 5\n"
		}
	}
	src += scriptLine("run", impl.MaxTicks-impl.ParseScript(src).Ticks)
	ran := impl.RunAs(src, "")
	expectP14(t, src, ran)
	if sent := expectP15(t, ran); sent != 29 {
		t.Errorf("%d frames sent", sent)
	}
	if due := expectP17(t, src, ran); due != 29 {
		t.Errorf("%d frames due", due)
	}
}

// A frame of a low field that comes right behind the start of a long one waits for it alone.
func TestP17BehindALongOne(t *testing.T) {
	long := impl.Frame{Ext: true, Id: 0x1fffffff, Dlc: 8, Data: make([]uint8, 8)}
	for at := range 6 {
		src := pairHead + frameLine(0, 1, long) + scriptLine("run", at) + "send 1 2 b 0 -\nrun 1000\n"
		ran := impl.RunAs(src, "")
		expectP14(t, src, ran)
		if due := expectP17(t, src, ran); due != 2 {
			t.Errorf("%d frames due", due)
		}
	}
}

// One node behind another: an edge frame of each kind, sent by either, is forecast and heard.
func TestP14P15EveryKindOfFrame(t *testing.T) {
	for i, f := range edgeFrames() {
		if !f.Rtr && f.Dlc > 8 || i%5 != 0 {
			continue
		}
		src := pairHead + frameLine(i%2, 1, f) + "send 0 2 b 400 -\nrun 240\n"
		ran := impl.RunAs(src, []string{"rr", "oo", "ro"}[i%3])
		if impl.Forecast(src).Code == impl.CodeEqual {
			continue
		}
		expectP14(t, src, ran)
		if sent := expectP15(t, ran); sent != 2 {
			t.Fatalf("%d frames sent of\n%s", sent, src)
		}
	}
}
