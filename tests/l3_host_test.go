package tests

import (
	"math"
	"slices"
	"strings"
	"testing"

	"loop.example/s01647/impl"
)

func TestHostsAgainstTheSlowOne(t *testing.T) {
	d := dice(71)
	for range 4000 {
		h := d.host()
		if !isValid(h) {
			t.Fatalf("the dice made %+v", h)
		}
		for range 12 {
			if got, want := impl.Best(h), slowBest(h); got != want {
				t.Fatalf("Best(%+v) = %d, want %d", h, got, want)
			}
			h = expectCall(t, h, d.call(h))
			if !isValid(h) {
				t.Fatalf("not valid: %+v", h)
			}
		}
	}
}

// lateHost is a valid one in which every kind of thing stands, so that each can be spoiled.
func lateHost() impl.Host {
	f := impl.Frame{Id: 5, Dlc: 2, Data: []uint8{1, 2}}
	return impl.Host{
		Cfg:     impl.Config{Boxes: 4, Fifo: 2, Policy: impl.PolicyNew, Events: 3},
		Filters: []impl.Filter{{Mask: 0x7ff, Match: 5}, {Ext: true, Mask: 1, Match: 0x1fffffff}},
		Boxes: []impl.Box{
			{State: impl.BoxWaiting, Tag: 7, Stamp: 48, F: f},
			{},
			{State: impl.BoxSending, Tag: 0, Stamp: 0, F: impl.Frame{Ext: true, Id: 9, Rtr: true, Dlc: 3}},
			{State: impl.BoxWaiting, Tag: impl.MaxTag, Stamp: 3, F: f},
		},
		Fifo:  []impl.Frame{f},
		Queue: []impl.Event{{Kind: impl.EvSent, A: 3, F: f}, {Kind: impl.EvFetched, A: impl.MaxTag, B: 9}},
		Stamp: 50,
	}
}

func everyCall() []hostCall {
	f := impl.Frame{Id: 5}
	return []hostCall{
		{kind: callSubmit, n: 1, f: f}, {kind: callSubmit, n: -1, f: f}, {kind: callTake}, {kind: callTake, n: 99}, {kind: callRelease},
		{kind: callRelease, sent: true}, {kind: callAbort, n: 7}, {kind: callAbort, n: 8}, {kind: callDeliver, f: f},
		{kind: callDeliver, f: impl.Frame{Id: 2048}}, {kind: callFetch}, {kind: callDrain},
	}
}

func TestEachThingThatMakesAHostWrong(t *testing.T) {
	full := lateHost()
	full.Fifo = append(full.Fifo, impl.Frame{})
	full.Queue = append(full.Queue, impl.Event{Kind: impl.EvMiss})
	fresh := hostWith(t, 2, 1, impl.PolicyOld, 1)
	wrong := 0
	for _, h := range append(append(spoiledHosts(lateHost()), spoiledHosts(full)...), spoiledHosts(fresh)...) {
		for _, c := range everyCall() {
			expectCall(t, h, c)
		}
		if got, want := impl.Best(h), slowBest(h); got != want {
			t.Errorf("Best(%+v) = %d, want %d", h, got, want)
		}
		if !isValid(h) {
			wrong++
		}
	}
	if wrong < 300 {
		t.Errorf("only %d of the hosts were not valid", wrong)
	}
	for _, c := range everyCall() {
		expectCall(t, impl.Host{}, c)
	}
	if impl.Best(impl.Host{}) != -1 {
		t.Error("the zero Host has a best box")
	}
}

func TestNewHost(t *testing.T) {
	for _, c := range []impl.Config{
		{Boxes: 1, Fifo: 1, Policy: impl.PolicyOld, Events: 1},
		{Boxes: impl.MaxBoxes, Fifo: impl.MaxFifo, Policy: impl.PolicyNew, Events: impl.MaxQueue},
	} {
		filters := []impl.Filter{{Mask: 2047, Match: 2047}, {Ext: true, Mask: 1<<29 - 1, Match: 1<<29 - 1}, {}, {Match: 1}}
		filters = slices.Repeat(filters, 4)
		h, code := impl.NewHost(c, filters)
		want := impl.Host{Cfg: c, Filters: filters, Boxes: make([]impl.Box, c.Boxes)}
		if code != 0 || !sameHosts(h, want) || !isValid(h) {
			t.Errorf("NewHost(%+v) = %+v, %d", c, h, code)
		}
		expectApart(t, "NewHost", append(hostRegions(h), regionOf(filters))...)
	}
	if h, code := impl.NewHost(impl.Config{Boxes: 1, Fifo: 1, Events: 1}, []impl.Filter{}); code != 0 || len(h.Filters) != 0 {
		t.Errorf("no filters: %+v, %d", h, code)
	}
}

func TestNewHostRefuses(t *testing.T) {
	good := impl.Config{Boxes: 2, Fifo: 2, Policy: impl.PolicyNew, Events: 2}
	wrongFilter := []impl.Filter{{Mask: 2048}}
	for _, n := range []int{math.MinInt, -1, 0, 2, 8, 9, 16, 17, 32, 33, math.MaxInt} {
		for _, c := range []impl.Config{
			{Boxes: n, Fifo: 1, Events: 1}, {Boxes: 1, Fifo: n, Events: 1}, {Boxes: 1, Fifo: 1, Policy: n, Events: 1}, {Boxes: 1, Fifo: 1, Events: n},
		} {
			want := 0
			if !hasConfig(c) {
				want = 1
			}
			if h, code := impl.NewHost(c, nil); code != want || want != 0 && !isZeroHost(h) {
				t.Errorf("NewHost(%+v) = %+v, %d, want code %d", c, h, code, want)
			}
			if _, code := impl.NewHost(c, wrongFilter); code != 2-want {
				t.Errorf("NewHost(%+v) with a wrong filter: code %d", c, code)
			}
		}
	}
	for _, filters := range spoiledFilters() {
		want := 0
		if !hasFilters(filters) {
			want = 2
		}
		if h, code := impl.NewHost(good, filters); code != want || want != 0 && !isZeroHost(h) {
			t.Errorf("NewHost with %+v = %+v, %d, want code %d", filters, h, code, want)
		}
	}
}

// expectQueue wants the events that stand in the queue.
func expectQueue(t *testing.T, what string, h impl.Host, want ...impl.Event) {
	t.Helper()
	drained, got := impl.Drain(h)
	if !slices.EqualFunc(got, want, sameEvents) || len(drained.Queue) != 0 {
		t.Errorf("%s: events %+v, want %+v", what, got, want)
	}
}

// Each of these calls has every fault from its own on, and only the first is told.
func TestSubmitRefusesInOrder(t *testing.T) {
	h := hostWith(t, 1, 1, impl.PolicyOld, 8)
	h = impl.Submit(h, 4, impl.Frame{Id: 1})
	h.Stamp = impl.MaxStamp
	bad := impl.Frame{Id: 2048}
	for _, c := range []struct {
		tag  int
		f    impl.Frame
		want impl.Event
	}{
		{-1, bad, impl.Event{Kind: impl.EvBad, B: impl.BadTag}},
		{impl.MaxTag + 1, bad, impl.Event{Kind: impl.EvBad, B: impl.BadTag}},
		{math.MinInt, impl.Frame{}, impl.Event{Kind: impl.EvBad, B: impl.BadTag}},
		{math.MaxInt, impl.Frame{}, impl.Event{Kind: impl.EvBad, B: impl.BadTag}},
		{4, bad, impl.Event{Kind: impl.EvBad, A: 4, B: impl.BadFrame}},
		{4, impl.Frame{}, impl.Event{Kind: impl.EvBad, A: 4, B: impl.BadUsed}},
		{5, impl.Frame{}, impl.Event{Kind: impl.EvBad, A: 5, B: impl.BadStamp}},
	} {
		got := impl.Submit(h, c.tag, c.f)
		expectQueue(t, "Submit", got, c.want)
		got.Queue = nil
		if !sameHosts(got, h) {
			t.Errorf("a refused Submit changed the host: %+v", got)
		}
	}
	h.Stamp = impl.MaxStamp - 1
	expectQueue(t, "no free box", impl.Submit(h, impl.MaxTag, impl.Frame{}), impl.Event{Kind: impl.EvFull, A: impl.MaxTag})
	expectQueue(t, "tag 0, no free box", impl.Submit(h, 0, impl.Frame{}), impl.Event{Kind: impl.EvFull})
}

func TestSubmitAtItsEdges(t *testing.T) {
	h := hostWith(t, 3, 1, impl.PolicyOld, 1)
	h.Stamp = impl.MaxStamp - 2
	f := impl.Frame{Ext: true, Id: 1<<29 - 1, Dlc: 15, Data: []uint8{1, 2, 3, 4, 5, 6, 7, 8}}
	h = impl.Submit(impl.Submit(h, impl.MaxTag, f), 0, impl.Frame{})
	want := []impl.Box{{State: impl.BoxWaiting, Tag: impl.MaxTag, Stamp: impl.MaxStamp - 2, F: f}, {State: impl.BoxWaiting, Stamp: impl.MaxStamp - 1}, {}}
	if !slices.EqualFunc(h.Boxes, want, sameBoxes) || h.Stamp != impl.MaxStamp || len(h.Queue) != 0 {
		t.Errorf("two submitted: %+v", h)
	}
	expectQueue(t, "stamps used up", impl.Submit(h, 1, f), impl.Event{Kind: impl.EvBad, A: 1, B: impl.BadStamp})
	h = impl.Submit(impl.Abort(h, impl.MaxTag), 1, f)
	if h.Boxes[0].State != impl.BoxFree || h.Lost != 1 {
		t.Errorf("stamps used up, a box free and the queue full: %+v", h)
	}
}

// A freed box is the next to be used, whatever its index; a tag that left may come again.
func TestSubmitTakesTheLowestFreeBox(t *testing.T) {
	h := hostWith(t, 3, 1, impl.PolicyOld, 9)
	for tag := range 3 {
		h = impl.Submit(h, tag, impl.Frame{Id: uint32(tag)})
	}
	h = impl.Submit(impl.Abort(impl.Abort(h, 2), 1), 2, impl.Frame{Id: 9})
	if h.Boxes[1].Tag != 2 || h.Boxes[1].Stamp != 3 || h.Boxes[2].State != impl.BoxFree {
		t.Errorf("%+v", h.Boxes)
	}
}

func TestAFullQueue(t *testing.T) {
	h := hostWith(t, 1, 1, impl.PolicyNew, 2)
	h = impl.Fetch(impl.Abort(h, 1))
	if len(h.Queue) != 2 || h.Lost != 0 {
		t.Errorf("two of two: %+v", h)
	}
	h = impl.Abort(h, 3)
	if len(h.Queue) != 2 || h.Lost != 1 {
		t.Errorf("a third: %+v", h)
	}
	h.Lost = impl.MaxLost - 1
	h = impl.Deliver(impl.Deliver(h, impl.Frame{Id: 1}), impl.Frame{Id: 2})
	if h.Lost != impl.MaxLost || len(h.Fifo) != 1 || h.Fifo[0].Id != 2 {
		t.Errorf("three lost at the limit: %+v", h)
	}
	expectQueue(t, "the first two stay", h, impl.Event{Kind: impl.EvMiss, A: 1}, impl.Event{Kind: impl.EvFetched})
	h, _ = impl.Drain(h)
	if h.Lost != impl.MaxLost {
		t.Errorf("Drain changed Lost: %d", h.Lost)
	}
}

func TestTake(t *testing.T) {
	h := hostWith(t, 3, 1, impl.PolicyOld, 4)
	h = impl.Submit(impl.Submit(h, 1, impl.Frame{Id: 1}), 2, impl.Frame{Id: 2})
	for _, box := range []int{-1, 2, 3, 8, math.MinInt, math.MaxInt} {
		if got := impl.Take(h, box); !sameHosts(got, h) {
			t.Errorf("Take(%d) = %+v", box, got)
		}
	}
	taken := impl.Take(h, 1)
	if taken.Boxes[1].State != impl.BoxSending || taken.Boxes[0].State != impl.BoxWaiting || taken.Boxes[1].Tag != 2 {
		t.Errorf("Take(1) = %+v", taken)
	}
	for _, other := range []impl.Host{taken, impl.Abort(taken, 2)} {
		for box := range 3 {
			if got := impl.Take(other, box); !sameHosts(got, other) {
				t.Errorf("Take(%d) beside a box on the wire = %+v", box, got)
			}
		}
	}
}

// An abort and a release of a box in each state.
func TestAbortAndRelease(t *testing.T) {
	f := impl.Frame{Id: 3, Dlc: 1, Data: []uint8{9}}
	free := hostWith(t, 1, 1, impl.PolicyOld, 4)
	waiting := impl.Submit(free, 6, f)
	sending := impl.Take(waiting, 0)
	doomed := impl.Abort(sending, 6)
	sent, aborted := impl.Event{Kind: impl.EvSent, A: 6, F: f}, impl.Event{Kind: impl.EvAborted, A: 6}
	for _, c := range []struct {
		name string
		got  impl.Host
		box  int
		want []impl.Event
	}{
		{"abort of free", impl.Abort(free, 6), impl.BoxFree, []impl.Event{{Kind: impl.EvMiss, A: 6}}},
		{"abort of tag 0 where the box is free", impl.Abort(free, 0), impl.BoxFree, []impl.Event{{Kind: impl.EvMiss}}},
		{"abort of waiting", impl.Abort(waiting, 6), impl.BoxFree, []impl.Event{aborted}},
		{"abort of sending", impl.Abort(sending, 6), impl.BoxDoomed, nil},
		{"abort of doomed", impl.Abort(doomed, 6), impl.BoxDoomed, nil},
		{"abort of another", impl.Abort(sending, 7), impl.BoxSending, []impl.Event{{Kind: impl.EvMiss, A: 7}}},
		{"abort of MaxTag", impl.Abort(sending, impl.MaxTag), impl.BoxSending, []impl.Event{{Kind: impl.EvMiss, A: impl.MaxTag}}},
		{"abort beyond MaxTag", impl.Abort(sending, impl.MaxTag+1), impl.BoxSending, []impl.Event{{Kind: impl.EvMiss}}},
		{"abort below 0", impl.Abort(sending, -6), impl.BoxSending, []impl.Event{{Kind: impl.EvMiss}}},
		{"sent of free", impl.Release(free, true), impl.BoxFree, nil},
		{"not sent of free", impl.Release(free, false), impl.BoxFree, nil},
		{"sent of waiting", impl.Release(waiting, true), impl.BoxWaiting, nil},
		{"not sent of waiting", impl.Release(waiting, false), impl.BoxWaiting, nil},
		{"sent of sending", impl.Release(sending, true), impl.BoxFree, []impl.Event{sent}},
		{"not sent of sending", impl.Release(sending, false), impl.BoxWaiting, nil},
		{"sent of doomed", impl.Release(doomed, true), impl.BoxFree, []impl.Event{sent}},
		{"not sent of doomed", impl.Release(doomed, false), impl.BoxFree, []impl.Event{aborted}},
	} {
		expectQueue(t, c.name, c.got, c.want...)
		want := impl.Box{}
		if c.box != impl.BoxFree {
			want = impl.Box{State: c.box, Tag: 6, F: f}
		}
		if !sameBoxes(c.got.Boxes[0], want) {
			t.Errorf("%s: the box is %+v, want %+v", c.name, c.got.Boxes[0], want)
		}
	}
}

// received says, a letter a frame, which of them come through the filters.
func received(h impl.Host, frames ...impl.Frame) string {
	out := strings.Builder{}
	for _, f := range frames {
		out.WriteByte('0' + byte(len(impl.Deliver(h, f).Fifo)))
	}
	return out.String()
}

func TestFilters(t *testing.T) {
	frames := []impl.Frame{{Id: 5}, {Id: 6}, {Id: 0x7ff}, {Ext: true, Id: 5}, {Ext: true, Id: 6}, {Ext: true, Id: 1<<29 - 1}, {Id: 2048}, {Id: 5, Rtr: true}}
	for _, c := range []struct {
		filters []impl.Filter
		want    string
	}{
		{nil, "11111101"},
		{[]impl.Filter{{}}, "11100001"},
		{[]impl.Filter{{Ext: true}}, "00011100"},
		{[]impl.Filter{{Mask: 0x7ff, Match: 5}}, "10000001"},
		{[]impl.Filter{{Ext: true, Mask: 0x7ff, Match: 5}}, "00010000"},
		{[]impl.Filter{{Mask: 1, Match: 0x7fe}}, "01000000"},
		{[]impl.Filter{{Mask: 4, Match: 0x7ff}}, "11100001"},
		{[]impl.Filter{{Mask: 0x7ff, Match: 9}, {Ext: true, Mask: 1<<29 - 1, Match: 1<<29 - 1}}, "00000100"},
		{[]impl.Filter{{Mask: 0x7ff, Match: 9}, {Mask: 0x7ff, Match: 6}, {Ext: true, Mask: 3, Match: 2}}, "01001000"},
	} {
		if got := received(hostWith(t, 1, 1, impl.PolicyOld, 4, c.filters...), frames...); got != c.want {
			t.Errorf("through %+v come %s, want %s", c.filters, got, c.want)
		}
	}
	h := hostWith(t, 1, 1, impl.PolicyOld, 4, impl.Filter{Mask: 1, Match: 1})
	for _, f := range append(wrongFrames(), impl.Frame{}) {
		if got := impl.Deliver(h, f); !sameHosts(got, h) {
			t.Errorf("Deliver(%+v) = %+v", f, got)
		}
	}
}

func TestFifoUnderEitherPolicy(t *testing.T) {
	frame := func(id int) impl.Frame {
		return impl.Frame{Id: uint32(id), Dlc: 1, Data: []uint8{uint8(id)}}
	}
	for _, size := range []int{1, 2, impl.MaxFifo} {
		for _, policy := range []int{impl.PolicyOld, impl.PolicyNew} {
			h := hostWith(t, 1, size, policy, impl.MaxQueue)
			for id := range size {
				h = impl.Deliver(h, frame(id))
			}
			h, _ = impl.Drain(h)
			h = impl.Deliver(h, frame(size))
			first := 0
			if policy == impl.PolicyOld {
				expectQueue(t, "the old stay", h, impl.Event{Kind: impl.EvOverrun, F: frame(size)})
			} else {
				first = 1
				expectQueue(t, "the new comes in", h, impl.Event{Kind: impl.EvOverrun, F: frame(0)}, impl.Event{Kind: impl.EvReceived, F: frame(size)})
			}
			h, _ = impl.Drain(h)
			var want []impl.Event
			for id := first; id < first+size; id++ {
				h = impl.Fetch(h)
				want = append(want, impl.Event{Kind: impl.EvFetched, A: 1, F: frame(id)})
			}
			expectQueue(t, "fetched", impl.Fetch(h), append(want, impl.Event{Kind: impl.EvFetched})...)
		}
	}
}
