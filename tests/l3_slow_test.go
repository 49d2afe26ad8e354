package tests

import (
	"slices"
	"testing"

	"loop.example/s01647/impl"
)

// The host a second time, by the words of the document and without a map or a ring.

func slowPost(h impl.Host, e impl.Event) impl.Host {
	if len(h.Queue) == h.Cfg.Events {
		h.Lost += 1
		if h.Lost > impl.MaxLost {
			h.Lost = impl.MaxLost
		}
		return h
	}
	h.Queue = append(slices.Clone(h.Queue), e)
	return h
}

func slowPut(h impl.Host, i int, box impl.Box) impl.Host {
	h.Boxes = slices.Clone(h.Boxes)
	h.Boxes[i] = box
	return h
}

// boxOf is the first box that is asked for, -1 if there is none.
func boxOf(h impl.Host, asked func(impl.Box) bool) int {
	for i, box := range h.Boxes {
		if asked(box) {
			return i
		}
	}
	return -1
}

func boxWithTag(h impl.Host, tag int) int {
	return boxOf(h, func(b impl.Box) bool { return b.State != impl.BoxFree && b.Tag == tag })
}

func boxOnWire(h impl.Host) int {
	return boxOf(h, func(b impl.Box) bool { return b.State == impl.BoxSending || b.State == impl.BoxDoomed })
}

func slowSubmit(h impl.Host, tag int, f impl.Frame) impl.Host {
	if tag < 0 || tag > impl.MaxTag {
		return slowPost(h, impl.Event{Kind: impl.EvBad, A: 0, B: impl.BadTag})
	}
	if !impl.ValidFrame(f) {
		return slowPost(h, impl.Event{Kind: impl.EvBad, A: tag, B: impl.BadFrame})
	}
	if boxWithTag(h, tag) >= 0 {
		return slowPost(h, impl.Event{Kind: impl.EvBad, A: tag, B: impl.BadUsed})
	}
	if h.Stamp == impl.MaxStamp {
		return slowPost(h, impl.Event{Kind: impl.EvBad, A: tag, B: impl.BadStamp})
	}
	i := boxOf(h, func(b impl.Box) bool { return b.State == impl.BoxFree })
	if i < 0 {
		return slowPost(h, impl.Event{Kind: impl.EvFull, A: tag})
	}
	h = slowPut(h, i, impl.Box{State: impl.BoxWaiting, Tag: tag, Stamp: h.Stamp, F: f})
	h.Stamp++
	return h
}

// slowBest looks for a waiting box that no other waiting box goes ahead of.
func slowBest(h impl.Host) int {
	if !isValid(h) {
		return -1
	}
	return boxOf(h, func(b impl.Box) bool {
		return b.State == impl.BoxWaiting && boxOf(h, func(c impl.Box) bool {
			less, equal := impl.Arb(c.F) < impl.Arb(b.F), impl.Arb(c.F) == impl.Arb(b.F)
			return c.State == impl.BoxWaiting && (less || equal && c.Stamp < b.Stamp)
		}) < 0
	})
}

func slowTake(h impl.Host, i int) impl.Host {
	if i < 0 || i >= len(h.Boxes) || h.Boxes[i].State != impl.BoxWaiting || boxOnWire(h) >= 0 {
		return h
	}
	box := h.Boxes[i]
	box.State = impl.BoxSending
	return slowPut(h, i, box)
}

func slowRelease(h impl.Host, sent bool) impl.Host {
	i := boxOnWire(h)
	if i < 0 {
		return h
	}
	box := h.Boxes[i]
	if sent {
		return slowPost(slowPut(h, i, impl.Box{}), impl.Event{Kind: impl.EvSent, A: box.Tag, F: box.F})
	}
	if box.State == impl.BoxDoomed {
		return slowPost(slowPut(h, i, impl.Box{}), impl.Event{Kind: impl.EvAborted, A: box.Tag})
	}
	box.State = impl.BoxWaiting
	return slowPut(h, i, box)
}

func slowAbort(h impl.Host, tag int) impl.Host {
	i := boxWithTag(h, tag)
	if i < 0 {
		if tag < 0 || tag > impl.MaxTag {
			tag = 0
		}
		return slowPost(h, impl.Event{Kind: impl.EvMiss, A: tag})
	}
	box := h.Boxes[i]
	if box.State == impl.BoxWaiting {
		return slowPost(slowPut(h, i, impl.Box{}), impl.Event{Kind: impl.EvAborted, A: tag})
	}
	box.State = impl.BoxDoomed
	return slowPut(h, i, box)
}

func slowPasses(h impl.Host, f impl.Frame) bool {
	for _, x := range h.Filters {
		if x.Ext == f.Ext && (f.Id^x.Match)&x.Mask == 0 {
			return true
		}
	}
	return len(h.Filters) == 0
}

func slowDeliver(h impl.Host, f impl.Frame) impl.Host {
	if !impl.ValidFrame(f) || !slowPasses(h, f) {
		return h
	}
	if len(h.Fifo) == h.Cfg.Fifo && h.Cfg.Policy == impl.PolicyOld {
		return slowPost(h, impl.Event{Kind: impl.EvOverrun, F: f})
	}
	if len(h.Fifo) == h.Cfg.Fifo {
		h = slowPost(h, impl.Event{Kind: impl.EvOverrun, F: h.Fifo[0]})
		h.Fifo = h.Fifo[1:]
	}
	h.Fifo = append(slices.Clone(h.Fifo), f)
	return slowPost(h, impl.Event{Kind: impl.EvReceived, F: f})
}

func slowFetch(h impl.Host) impl.Host {
	if len(h.Fifo) == 0 {
		return slowPost(h, impl.Event{Kind: impl.EvFetched, A: 0})
	}
	f := h.Fifo[0]
	h.Fifo = h.Fifo[1:]
	return slowPost(h, impl.Event{Kind: impl.EvFetched, A: 1, F: f})
}

// The calls of the layer that change a host.
const (
	callSubmit = iota
	callTake
	callRelease
	callAbort
	callDeliver
	callFetch
	callDrain
	callKinds
)

type hostCall struct {
	kind int
	n    int // a tag or a box
	sent bool
	f    impl.Frame
}

// made answers the events of Drain too.
func (c hostCall) made(h impl.Host) (impl.Host, []impl.Event) {
	switch c.kind {
	case callSubmit:
		return impl.Submit(h, c.n, c.f), nil
	case callTake:
		return impl.Take(h, c.n), nil
	case callRelease:
		return impl.Release(h, c.sent), nil
	case callAbort:
		return impl.Abort(h, c.n), nil
	case callDeliver:
		return impl.Deliver(h, c.f), nil
	case callFetch:
		return impl.Fetch(h), nil
	}
	return impl.Drain(h)
}

func (c hostCall) slowlyMade(h impl.Host) (impl.Host, []impl.Event) {
	if !isValid(h) {
		return impl.Host{}, nil
	}
	switch c.kind {
	case callSubmit:
		return slowSubmit(h, c.n, c.f), nil
	case callTake:
		return slowTake(h, c.n), nil
	case callRelease:
		return slowRelease(h, c.sent), nil
	case callAbort:
		return slowAbort(h, c.n), nil
	case callDeliver:
		return slowDeliver(h, c.f), nil
	case callFetch:
		return slowFetch(h), nil
	}
	events := h.Queue
	h.Queue = nil
	return h, events
}

// call is one that may mean something to h: most tags and boxes are near those it has.
func (d *dice) call(h impl.Host) hostCall {
	c := hostCall{kind: d.roll(callKinds), sent: d.roll(2) == 0, f: d.anyFrame()}
	if d.roll(12) == 0 {
		c.f.Dlc = d.one(-1, 16)
	}
	if c.kind == callTake {
		c.n = d.one(-1, 0, 1, 2, d.roll(9), len(h.Boxes), impl.Best(h))
		return c
	}
	c.n = d.one(-1, 0, 1, 2, 3, 4, impl.MaxTag, impl.MaxTag+1, d.roll(10000))
	if len(h.Boxes) > 0 && d.roll(3) == 0 {
		c.n = h.Boxes[d.roll(len(h.Boxes))].Tag
	}
	return c
}

// expectCall holds one call against the slow host, and wants h untouched and the answer's memory its own.
func expectCall(t *testing.T, h impl.Host, c hostCall) impl.Host {
	t.Helper()
	before, frame := copyHost(h), copyFrame(c.f)
	want, wantEvents := c.slowlyMade(h)
	got, events := c.made(h)
	if !sameHosts(got, want) || !slices.EqualFunc(events, wantEvents, sameEvents) {
		t.Fatalf("%+v\nof %+v\nis %+v, %+v\nwant %+v, %+v", c, before, got, events, want, wantEvents)
	}
	if !sameHosts(h, before) || !sameFrames(c.f, frame) {
		t.Fatalf("%+v of %+v wrote into its argument", c, before)
	}
	regions := append(hostRegions(got), eventRegions(events)...)
	expectApart(t, "the answer", regions...)
	for _, r := range append(hostRegions(h), regionOf(c.f.Data)) {
		for _, s := range regions {
			if r.from < s.to && s.from < r.to {
				t.Fatalf("%+v of %+v: the answer shares memory with an argument", c, before)
			}
		}
	}
	return got
}
