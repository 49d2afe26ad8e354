package tests

import (
	"slices"
	"strings"
	"testing"

	"loop.example/s01647/impl"
)

// The forecast a second time: at every tick it is asked anew what of the running round falls on it.

type slowRound struct {
	from, winner, length int
	loses                map[int]int // from a loser to the tick of its Release
	f                    impl.Frame
}

// slowTakers are the nodes with a waiting box, each of which has it on the wire behind this.
func slowTakers(hosts []impl.Host) []int {
	var out []int
	for i, h := range hosts {
		if best := impl.Best(h); best >= 0 {
			hosts[i] = impl.Take(h, best)
			out = append(out, i)
		}
	}
	return out
}

func frameOnWire(h impl.Host) impl.Frame {
	return h.Boxes[boxOnWire(h)].F
}

// slowBegin says no if two nodes have the least Arb.
func slowBegin(hosts []impl.Host, takers []int, tick int) (slowRound, bool) {
	least := slices.MinFunc(takers, func(a, b int) int {
		return strings.Compare(impl.Arb(frameOnWire(hosts[a])), impl.Arb(frameOnWire(hosts[b])))
	})
	f := frameOnWire(hosts[least])
	r := slowRound{from: tick, winner: least, length: len(impl.Encode(f)), loses: map[int]int{}, f: f}
	for _, i := range takers {
		other := frameOnWire(hosts[i])
		if i == least {
			continue
		}
		if impl.Arb(other) == impl.Arb(f) {
			return slowRound{}, false
		}
		parts := 0
		for impl.Encode(other)[parts] == impl.Encode(f)[parts] {
			parts++
		}
		r.loses[i] = tick + parts
	}
	return r, true
}

func (r slowRound) at(hosts []impl.Host, tick int) {
	for i := range hosts {
		switch {
		case i == r.winner && tick == r.from+r.length-1:
			hosts[i] = impl.Release(hosts[i], true)
		case i != r.winner && tick == r.from+r.length-2:
			hosts[i] = impl.Deliver(hosts[i], r.f)
		case i != r.winner && r.loses[i] > 0 && tick == r.loses[i]:
			hosts[i] = impl.Release(hosts[i], false)
		}
	}
}

func slowForecastCode(s impl.Script) int {
	for _, o := range s.Orders {
		if o.Op == impl.OpFlip && o.Count > 0 {
			return impl.CodeFlips
		}
	}
	if len(s.Setups) < 2 {
		return impl.CodeFew
	}
	return 0
}

func slowOrder(h impl.Host, o impl.Order) impl.Host {
	switch o.Op {
	case impl.OpSend:
		return impl.Submit(h, o.Tag, o.F)
	case impl.OpDrop:
		return impl.Abort(h, o.Tag)
	case impl.OpFetch:
		return impl.Fetch(h)
	case impl.OpRestart:
		return slowPost(h, impl.Event{Kind: impl.EvRestart})
	}
	return h
}

func slowForecast(src string) impl.Outcome {
	s := slowParse(src)
	if s.Code != 0 {
		return impl.Outcome{Code: s.Code, Line: s.Line}
	}
	if code := slowForecastCode(s); code != 0 {
		return impl.Outcome{Code: code}
	}
	var hosts []impl.Host
	for _, setup := range s.Setups {
		h, _ := impl.NewHost(setup.Cfg, setup.Filters)
		hosts = append(hosts, h)
	}
	var out impl.Outcome
	round, freeAt := slowRound{from: -1000}, 0
	for tick := range s.Ticks + 1 {
		for _, o := range s.Orders {
			if o.Tick == tick {
				hosts[o.Node] = slowOrder(hosts[o.Node], o)
			}
		}
		if tick < s.Ticks && tick >= freeAt {
			if takers := slowTakers(hosts); len(takers) > 0 {
				ok := false
				if round, ok = slowBegin(hosts, takers, tick); !ok {
					return impl.Outcome{Code: impl.CodeEqual}
				}
				freeAt = tick + round.length + 3
			}
		}
		if tick < s.Ticks {
			round.at(hosts, tick)
		}
		for i := range hosts {
			h, events := impl.Drain(hosts[i])
			hosts[i] = h
			for _, e := range events {
				out.Seen = append(out.Seen, impl.Seen{Tick: tick, Node: i, E: e})
			}
		}
	}
	for _, h := range hosts {
		out.Finals = append(out.Finals, impl.Final{Held: heldIn(h), Fifo: len(h.Fifo), Lost: h.Lost})
	}
	return out
}

// expectForecast answers the forecast, once the slow one has given the same.
func expectForecast(t *testing.T, src string) impl.Outcome {
	t.Helper()
	got := impl.Forecast(src)
	expectSame(t, "Forecast", src, got, slowForecast(src))
	return got
}

// The listener a second time: it takes one level at a time and keeps in which of its states it is.

func slowSniff(bus string) []impl.Slot {
	if len(bus) > 6000 || strings.Trim(bus, "01") != "" {
		return nil
	}
	const (
		free = iota
		inFrame
		inGap
		lost
	)
	var out []impl.Slot
	state, from, count := free, 0, 0
	for i := range bus {
		one := bus[i] == '1'
		switch state {
		case free:
			if !one {
				state, from = inFrame, i
			}
		case inFrame:
			heard := bus[from : i+1]
			switch impl.Judge(heard).Code {
			case impl.VerdictMore, impl.VerdictValid:
			case impl.VerdictWhole:
				f, _ := impl.Decode(heard)
				out = append(out, impl.Slot{At: from, Len: len(heard), F: f})
				state, count = inGap, 0
			default:
				state, count = lost, 0
			}
		case inGap:
			count++
			if !one {
				state, count = lost, 0
			} else if count == 3 {
				state = free
			}
		case lost:
			count++
			if !one {
				count = 0
			} else if count == 11 {
				state = free
			}
		}
	}
	return out
}

func sameSlots(a, b impl.Slot) bool {
	return a.At == b.At && a.Len == b.Len && sameFrames(a.F, b.F)
}

// expectSlots names At of each slot, once the slow listener has heard the same.
func expectSlots(t *testing.T, what, bus string, want ...int) {
	t.Helper()
	slots := impl.Sniff(bus)
	if slow := slowSniff(bus); !slices.EqualFunc(slots, slow, sameSlots) {
		t.Errorf("%s: Sniff(%q) = %+v, want %+v", what, bus, slots, slow)
	}
	var got []int
	for _, slot := range slots {
		got = append(got, slot.At)
	}
	if !slices.Equal(got, want) {
		t.Errorf("%s: Sniff(%q) at %v, want %v", what, bus, got, want)
	}
}
