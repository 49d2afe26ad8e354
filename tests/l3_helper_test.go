package tests

import (
	"bytes"
	"math"
	"slices"
	"testing"
	"unsafe"

	"loop.example/s01647/impl"
)

func sameEvents(a, b impl.Event) bool {
	return a.Kind == b.Kind && a.A == b.A && a.B == b.B && sameFrames(a.F, b.F)
}

func sameBoxes(a, b impl.Box) bool {
	return a.State == b.State && a.Tag == b.Tag && a.Stamp == b.Stamp && sameFrames(a.F, b.F)
}

// sameHosts takes an empty list and nil for the same.
func sameHosts(a, b impl.Host) bool {
	return a.Cfg == b.Cfg && a.Lost == b.Lost && a.Stamp == b.Stamp &&
		slices.Equal(a.Filters, b.Filters) &&
		slices.EqualFunc(a.Boxes, b.Boxes, sameBoxes) &&
		slices.EqualFunc(a.Fifo, b.Fifo, sameFrames) &&
		slices.EqualFunc(a.Queue, b.Queue, sameEvents)
}

func isZeroHost(h impl.Host) bool {
	return sameHosts(h, impl.Host{})
}

func copyFrame(f impl.Frame) impl.Frame {
	f.Data = bytes.Clone(f.Data)
	return f
}

func copyHost(h impl.Host) impl.Host {
	h.Filters, h.Boxes = slices.Clone(h.Filters), slices.Clone(h.Boxes)
	h.Fifo, h.Queue = slices.Clone(h.Fifo), slices.Clone(h.Queue)
	for i := range h.Boxes {
		h.Boxes[i].F = copyFrame(h.Boxes[i].F)
	}
	for i := range h.Fifo {
		h.Fifo[i] = copyFrame(h.Fifo[i])
	}
	for i := range h.Queue {
		h.Queue[i].F = copyFrame(h.Queue[i].F)
	}
	return h
}

// region is the memory of a list, with the room behind its end.
type region struct{ from, to uintptr }

func regionOf[T any](list []T) region {
	from := uintptr(unsafe.Pointer(unsafe.SliceData(list)))
	var item T
	return region{from, from + uintptr(cap(list))*unsafe.Sizeof(item)}
}

func eventRegions(events []impl.Event) []region {
	out := []region{regionOf(events)}
	for _, e := range events {
		out = append(out, regionOf(e.F.Data))
	}
	return out
}

func hostRegions(h impl.Host) []region {
	out := append(eventRegions(h.Queue), regionOf(h.Filters), regionOf(h.Boxes), regionOf(h.Fifo))
	for _, box := range h.Boxes {
		out = append(out, regionOf(box.F.Data))
	}
	for _, f := range h.Fifo {
		out = append(out, regionOf(f.Data))
	}
	return out
}

// expectApart wants no two of the regions to overlap.
func expectApart(t *testing.T, what string, regions ...region) {
	t.Helper()
	regions = slices.DeleteFunc(regions, func(r region) bool { return r.from == r.to })
	slices.SortFunc(regions, func(a, b region) int { return int(int64(a.from) - int64(b.from)) })
	for i := 1; i < len(regions); i++ {
		if regions[i].from < regions[i-1].to {
			t.Errorf("%s: two lists share memory", what)
			return
		}
	}
}

func hasConfig(c impl.Config) bool {
	return in(c.Boxes, 1, 8) && in(c.Fifo, 1, 16) && (c.Policy == impl.PolicyOld || c.Policy == impl.PolicyNew) && in(c.Events, 1, 32)
}

func hasFilters(filters []impl.Filter) bool {
	for _, x := range filters {
		if !x.Ext && (x.Mask >= 2048 || x.Match >= 2048) || x.Mask >= 536870912 || x.Match >= 536870912 {
			return false
		}
	}
	return len(filters) <= 16
}

// isValid lists what the document asks of a valid Host, in its order.
func isValid(h impl.Host) bool {
	if !hasConfig(h.Cfg) || !hasFilters(h.Filters) || len(h.Boxes) != h.Cfg.Boxes {
		return false
	}
	tags, stamps, sending := map[int]int{}, map[int]int{}, 0
	for _, box := range h.Boxes {
		if box.State == impl.BoxFree {
			if !sameBoxes(box, impl.Box{}) {
				return false
			}
			continue
		}
		if !in(box.State, 1, 3) || !in(box.Tag, 0, 9999) || !in(box.Stamp, 0, h.Stamp-1) || !impl.ValidFrame(box.F) {
			return false
		}
		tags[box.Tag]++
		stamps[box.Stamp]++
		if box.State != impl.BoxWaiting {
			sending++
		}
		if tags[box.Tag] > 1 || stamps[box.Stamp] > 1 || sending > 1 {
			return false
		}
	}
	if len(h.Fifo) > h.Cfg.Fifo || len(h.Queue) > h.Cfg.Events {
		return false
	}
	for _, f := range h.Fifo {
		if !impl.ValidFrame(f) {
			return false
		}
	}
	for _, e := range h.Queue {
		if !in(e.Kind, 1, 12) || !in(e.A, 0, 9999) || !in(e.B, 0, 9) || !impl.ValidFrame(e.F) {
			return false
		}
	}
	return in(h.Lost, 0, 100000) && in(h.Stamp, 0, 1000000)
}

// one is one of the numbers.
func (d *dice) one(numbers ...int) int {
	return numbers[d.roll(len(numbers))]
}

func (d *dice) config() impl.Config {
	return impl.Config{Boxes: 1 + d.roll(8), Fifo: 1 + d.roll(d.one(2, 16)), Policy: d.roll(2), Events: 1 + d.roll(d.one(3, 32))}
}

func (d *dice) filters() []impl.Filter {
	var out []impl.Filter
	for range d.one(0, 0, 1, 2, 16) {
		x := impl.Filter{Ext: d.roll(2) == 0, Mask: uint32(d.one(0, 1, 0x400, 0x7ff)), Match: uint32(d.roll(1 << 11))}
		if x.Ext {
			x.Mask, x.Match = uint32(d.one(0, 1, 0x10000000, 0x1fffffff)), uint32(d.roll(1<<29))
		}
		out = append(out, x)
	}
	return out
}

// nearFrame is one of few frames, so that equal ones meet.
func (d *dice) nearFrame() impl.Frame {
	f := impl.Frame{Ext: d.roll(2) == 0, Id: uint32(d.one(0, 1, 2)), Rtr: d.roll(2) == 0, Dlc: d.roll(2)}
	if f.Ext {
		f.Id = uint32(d.one(0, 1<<18, 1<<18+1))
	}
	if !f.Rtr {
		f.Data = make([]uint8, f.Dlc)
	}
	return f
}

func (d *dice) anyFrame() impl.Frame {
	if d.roll(2) == 0 {
		return d.nearFrame()
	}
	return d.frame()
}

func (d *dice) event() impl.Event {
	return impl.Event{Kind: 1 + d.roll(12), A: d.roll(10000), B: d.roll(10), F: d.anyFrame()}
}

// boxes are valid ones with different tags and stamps below the host's own.
func (d *dice) boxes(count, stamp int) []impl.Box {
	out := make([]impl.Box, count)
	tag, behind, sending := d.one(0, 1, 9000, 9992), 1+d.roll(3), d.roll(2) == 0
	for _, i := range d.order(count) {
		state := d.one(impl.BoxFree, impl.BoxWaiting, impl.BoxWaiting)
		if sending && state == impl.BoxWaiting && d.roll(2) == 0 {
			state, sending = d.one(impl.BoxSending, impl.BoxDoomed), false
		}
		if state == impl.BoxFree || behind > stamp {
			continue
		}
		out[i] = impl.Box{State: state, Tag: tag, Stamp: stamp - behind, F: d.anyFrame()}
		tag, behind = tag+1, behind+1+d.roll(2)
	}
	return out
}

// order is the numbers below count, shuffled.
func (d *dice) order(count int) []int {
	out := []int{}
	for i := range count {
		out = slices.Insert(out, d.roll(len(out)+1), i)
	}
	return out
}

// host is a valid Host with the queue, the FIFO and the counters often at their ends.
func (d *dice) host() impl.Host {
	h := impl.Host{Cfg: d.config(), Filters: d.filters(), Stamp: d.one(0, 1, 50, impl.MaxStamp-1, impl.MaxStamp), Lost: d.one(0, 7, impl.MaxLost-1, impl.MaxLost)}
	h.Boxes = d.boxes(h.Cfg.Boxes, h.Stamp)
	for range d.one(0, h.Cfg.Fifo-1, h.Cfg.Fifo, d.roll(h.Cfg.Fifo+1)) {
		h.Fifo = append(h.Fifo, d.anyFrame())
	}
	for range d.one(0, h.Cfg.Events-1, h.Cfg.Events, d.roll(h.Cfg.Events+1)) {
		h.Queue = append(h.Queue, d.event())
	}
	return h
}

// hostWith is a fresh host with room enough for whatever a test by hand does.
func hostWith(t *testing.T, boxes, fifo, policy, events int, filters ...impl.Filter) impl.Host {
	t.Helper()
	h, code := impl.NewHost(impl.Config{Boxes: boxes, Fifo: fifo, Policy: policy, Events: events}, filters)
	if code != 0 {
		t.Fatalf("NewHost: code %d", code)
	}
	return h
}

// spoiledHosts are copies of a valid Host with one thing changed; most, but not all, are not valid.
func spoiledHosts(h impl.Host) []impl.Host {
	var out []impl.Host
	change := func(act func(*impl.Host)) {
		c := copyHost(h)
		act(&c)
		out = append(out, c)
	}
	far := []int{math.MinInt, -1, 0, 1, math.MaxInt, 1 << 32}
	for _, n := range append(far, 8, 9, 16, 17, 32, 33, len(h.Boxes)+1, len(h.Fifo)-1, len(h.Queue)-1) {
		change(func(c *impl.Host) { c.Cfg.Boxes = n })
		change(func(c *impl.Host) { c.Cfg.Fifo = n })
		change(func(c *impl.Host) { c.Cfg.Policy = n })
		change(func(c *impl.Host) { c.Cfg.Events = n })
	}
	for _, n := range append(far, 2, 49, impl.MaxLost, impl.MaxLost+1, impl.MaxStamp, impl.MaxStamp+1) {
		change(func(c *impl.Host) { c.Lost = n })
		change(func(c *impl.Host) { c.Stamp = n })
	}
	change(func(c *impl.Host) { c.Boxes = append(c.Boxes, impl.Box{}) })
	change(func(c *impl.Host) { c.Boxes = c.Boxes[1:] })
	change(func(c *impl.Host) { c.Boxes = nil })
	for _, x := range spoiledFilters() {
		change(func(c *impl.Host) { c.Filters = x })
	}
	out = append(out, spoiledBoxes(h)...)
	return append(out, spoiledLists(h)...)
}

func spoiledFilters() [][]impl.Filter {
	out := [][]impl.Filter{make([]impl.Filter, 16), make([]impl.Filter, 17)}
	for _, n := range []uint32{2047, 2048, 1<<29 - 1, 1 << 29, math.MaxUint32} {
		for _, ext := range []bool{false, true} {
			out = append(out, []impl.Filter{{Ext: ext, Mask: n}}, []impl.Filter{{}, {Ext: ext, Match: n}})
		}
	}
	return out
}

func spoiledBoxes(h impl.Host) []impl.Host {
	var out []impl.Host
	change := func(i int, act func(*impl.Box)) {
		c := copyHost(h)
		act(&c.Boxes[i])
		out = append(out, c)
	}
	for i := range h.Boxes {
		for _, n := range []int{math.MinInt, -1, 0, 1, 2, 3, 4, math.MaxInt} {
			change(i, func(b *impl.Box) { b.State = n })
		}
		for _, n := range []int{math.MinInt, -1, 0, impl.MaxTag, impl.MaxTag + 1, h.Boxes[0].Tag, math.MaxInt} {
			change(i, func(b *impl.Box) { b.Tag = n })
		}
		for _, n := range []int{math.MinInt, -1, 0, h.Stamp - 1, h.Stamp, h.Boxes[0].Stamp, math.MaxInt} {
			change(i, func(b *impl.Box) { b.Stamp = n })
		}
		for _, f := range append(wrongFrames(), impl.Frame{Id: 1}, impl.Frame{Ext: true}, impl.Frame{Rtr: true}, impl.Frame{Data: []uint8{}}) {
			change(i, func(b *impl.Box) { b.F = f })
		}
	}
	return out
}

func spoiledLists(h impl.Host) []impl.Host {
	var out []impl.Host
	add := func(c impl.Host) { out = append(out, c) }
	for _, f := range append(wrongFrames(), impl.Frame{}) {
		c := copyHost(h)
		c.Fifo = append(c.Fifo[:max(len(c.Fifo)-1, 0)], f)
		add(c)
		c = copyHost(h)
		c.Queue = append(c.Queue[:max(len(c.Queue)-1, 0)], impl.Event{Kind: impl.EvSent, F: f})
		add(c)
	}
	for _, n := range []int{math.MinInt, -1, 0, 9, 10, 12, 13, impl.MaxTag, impl.MaxTag + 1, math.MaxInt} {
		for _, e := range []impl.Event{{Kind: n}, {Kind: impl.EvFull, A: n}, {Kind: impl.EvBad, B: n}} {
			c := copyHost(h)
			c.Queue = append([]impl.Event{e}, c.Queue[min(len(c.Queue), 1):]...)
			add(c)
		}
	}
	long := copyHost(h)
	long.Fifo = make([]impl.Frame, h.Cfg.Fifo+1)
	add(long)
	long = copyHost(h)
	long.Queue = slices.Repeat([]impl.Event{{Kind: impl.EvMiss}}, h.Cfg.Events+1)
	add(long)
	return out
}
