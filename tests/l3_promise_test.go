package tests

import (
	"slices"
	"testing"

	"loop.example/s01647/impl"
)

// endings counts the events that tell the end of a tag.
func endings(events []impl.Event, tag int) int {
	count := 0
	for _, e := range events {
		if e.A == tag && (e.Kind == impl.EvSent || e.Kind == impl.EvAborted) {
			count++
		}
	}
	return count
}

func boxesWith(h impl.Host, tag int) int {
	count := 0
	for _, box := range h.Boxes {
		if box.State != impl.BoxFree && box.Tag == tag {
			count++
		}
	}
	return count
}

// One call at a time, with the queue drained ahead of it, every tag is watched from its Submit to its end.
func TestP8ATagStaysUntilItsEndIsTold(t *testing.T) {
	d := dice(81)
	ended := 0
	for range 300 {
		h := hostWith(t, 1+d.roll(8), 1+d.roll(3), d.roll(2), 2+d.roll(31))
		open := map[int]int{}
		for range 100 {
			h, _ = impl.Drain(h)
			c := d.call(h)
			next, drained := c.made(h)
			events := append(slices.Clone(next.Queue), drained...)
			for tag := range open {
				told := endings(events, tag)
				if told > 1 || boxesWith(next, tag)+told != 1 {
					t.Fatalf("%+v of %+v: tag %d in %d boxes, %d times told", c, h, tag, boxesWith(next, tag), told)
				}
				if told == 1 {
					delete(open, tag)
					ended++
				}
			}
			if c.kind == callSubmit && next.Stamp > h.Stamp {
				open[c.n] = 1
				if boxesWith(next, c.n) != 1 || len(events) != 0 {
					t.Fatalf("%+v of %+v is %+v", c, h, next)
				}
			}
			for _, e := range events {
				if (e.Kind == impl.EvSent || e.Kind == impl.EvAborted) && boxesWith(h, e.A) != 1 {
					t.Fatalf("%+v of %+v tells %+v of no box", c, h, e)
				}
			}
			h = next
		}
		if len(open) != h.Cfg.Boxes-boxesIn(h, impl.BoxFree) {
			t.Fatalf("%d tags open in %+v", len(open), h)
		}
	}
	if ended < 1000 {
		t.Errorf("only %d tags came to their end", ended)
	}
}

func boxesIn(h impl.Host, state int) int {
	count := 0
	for _, box := range h.Boxes {
		if box.State == state {
			count++
		}
	}
	return count
}

// Where the queue has no room, the tag ends all the same and Lost tells it.
func TestP8WithoutRoomInTheQueue(t *testing.T) {
	full := hostWith(t, 1, 1, impl.PolicyOld, 1)
	full = impl.Take(impl.Submit(impl.Fetch(full), 5, impl.Frame{}), 0)
	for _, c := range []struct {
		name string
		got  impl.Host
	}{
		{"sent", impl.Release(full, true)},
		{"aborted on the wire", impl.Release(impl.Abort(full, 5), false)},
		{"aborted while waiting", impl.Abort(impl.Release(full, false), 5)},
	} {
		if boxesWith(c.got, 5) != 0 || c.got.Lost != 1 || len(c.got.Queue) != 1 || c.got.Queue[0].Kind != impl.EvFetched {
			t.Errorf("%s: %+v", c.name, c.got)
		}
	}
}

// expectBest looks through the waiting boxes in the order in which they were submitted.
func expectBest(t *testing.T, h impl.Host, submitted []int) {
	t.Helper()
	want := -1
	for _, tag := range submitted {
		i := boxWithTag(h, tag)
		if i < 0 || h.Boxes[i].State != impl.BoxWaiting {
			continue
		}
		if want < 0 || impl.Arb(h.Boxes[i].F) < impl.Arb(h.Boxes[want].F) {
			want = i
		}
	}
	if got := impl.Best(h); got != want {
		t.Errorf("Best(%+v) = %d, want %d", h, got, want)
	}
}

func TestP9BestIsTheLeastAndTheEarliest(t *testing.T) {
	d := dice(82)
	for range 400 {
		h := hostWith(t, 1+d.roll(8), 1, impl.PolicyOld, impl.MaxQueue)
		var submitted []int
		for tag := range 40 {
			next := impl.Submit(h, tag, d.nearFrame())
			if next.Stamp > h.Stamp {
				submitted = append(submitted, tag)
			}
			h, _ = impl.Drain(next)
			switch d.roll(5) {
			case 0:
				h = impl.Take(h, impl.Best(h))
			case 1:
				h = impl.Release(h, d.roll(2) == 0)
			case 2, 3:
				h = impl.Abort(h, h.Boxes[d.roll(len(h.Boxes))].Tag)
			}
			expectBest(t, h, submitted)
		}
	}
}

func TestP9ByHand(t *testing.T) {
	h := hostWith(t, 4, 1, impl.PolicyOld, 9)
	if impl.Best(h) != -1 {
		t.Error("a best box where none waits")
	}
	same := impl.Frame{Id: 7, Dlc: 1, Data: []uint8{1}}
	h = impl.Submit(impl.Submit(impl.Submit(h, 1, impl.Frame{Id: 9}), 2, same), 3, impl.Frame{Id: 7})
	if impl.Best(h) != 1 {
		t.Errorf("of two equal ones the earlier: %d", impl.Best(h))
	}
	// The lowest box is used again, and so is younger than those above it.
	h = impl.Submit(impl.Abort(h, 1), 4, impl.Frame{Id: 7, Dlc: 2, Data: []uint8{0, 0}})
	if h.Boxes[0].Tag != 4 || impl.Best(h) != 1 {
		t.Errorf("of three equal ones the earliest: %d in %+v", impl.Best(h), h.Boxes)
	}
	h = impl.Take(h, 1)
	if impl.Best(h) != 2 {
		t.Errorf("a box on the wire does not wait: %d", impl.Best(h))
	}
	h = impl.Release(h, false)
	if impl.Best(h) != 1 {
		t.Errorf("a box that comes back keeps its turn: %d", impl.Best(h))
	}
	h = impl.Submit(impl.Abort(h, 2), 5, impl.Frame{Id: 7, Rtr: true})
	if impl.Best(h) != 2 {
		t.Errorf("a remote frame goes behind data: %d", impl.Best(h))
	}
	h = impl.Submit(h, 6, impl.Frame{Ext: true, Id: 6<<18 + 1})
	if impl.Best(h) != 3 {
		t.Errorf("a lower identifier, though extended: %d", impl.Best(h))
	}
}
