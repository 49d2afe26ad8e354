package tests

import (
	"slices"
	"strings"
	"testing"

	"loop.example/s01647/impl"
)

// hostsOnWire are hosts with a frame on the wire: alone, with others waiting, doomed, and with no room in the queue.
func hostsOnWire(t *testing.T, f impl.Frame) []impl.Host {
	t.Helper()
	alone := sendingHost(impl.Submit(hostWith(t, 1, 1, impl.PolicyNew, 4), 3, f))
	others := sendingHost(impl.Submit(hostWith(t, 3, 1, impl.PolicyNew, 4), 3, f))
	others = impl.Submit(impl.Submit(others, 4, impl.Frame{}), 5, f)
	full := copyHost(others)
	full.Cfg.Events, full.Queue = 1, []impl.Event{{Kind: impl.EvMiss}}
	return []impl.Host{alone, others, impl.Abort(others, 3), full}
}

// Every bit of frames of each kind, for a sender and a hearer, with the counters at their edges.
func TestP12EveryBitOfAFrame(t *testing.T) {
	for _, f := range fewFrames() {
		all := asHeardBySender(f)
		for i, h := range hostsOnWire(t, f) {
			for bits := range len(all) {
				for _, n := range countersOf() {
					if i > 0 && n[0] != 248 && n[1] != 128 {
						continue
					}
					r := impl.Ref{Core: impl.Core{Phase: impl.PhaseFrame, Tx: true, Tec: n[0], Rec: n[1], Host: h}, Heard: all[:bits]}
					expectP12(t, r)
					if r.Core.Tx = false; bits > 0 {
						r.Core.Host = impl.Release(h, false)
						expectP12(t, r)
					}
				}
			}
		}
	}
}

func TestP12OutsideOfFrames(t *testing.T) {
	h := hostWith(t, 3, 1, impl.PolicyOld, 4)
	waiting := impl.Submit(impl.Submit(h, 3, impl.Frame{Ext: true, Id: 9}), 4, impl.Frame{Ext: true, Id: 8, Dlc: 2, Data: []uint8{3, 4}})
	met := map[int]int{}
	for _, c := range slices.Concat(bareCores(h), bareCores(waiting)) {
		for _, n := range countersOf() {
			if c.Phase != impl.PhaseOff {
				c.Tec = n[0]
			}
			if c.Rec = n[1]; c.Phase != impl.PhaseFrame {
				expectP12(t, impl.Ref{Core: c})
				met[c.Phase]++
			}
		}
	}
	if len(met) != 7 {
		t.Errorf("phases %v", met)
	}
}

func TestP12ByTheDice(t *testing.T) {
	d := dice(121)
	for range 4000 {
		expectP12(t, d.ref())
	}
	expectP12(t, impl.Ref{})
	for _, r := range someRefs(t) {
		expectP12(t, r)
	}
}

// meddle gives a host something to do and now and then asks for a restart.
func (d *dice) meddle(p *pair) {
	switch d.roll(60) {
	case 0:
		p.change(func(c *impl.Core) { c.Host = impl.Submit(c.Host, d.roll(4), d.anyFrame()) })
	case 1:
		p.change(func(c *impl.Core) { c.Host = impl.Abort(c.Host, d.roll(4)) })
	case 2:
		p.change(func(c *impl.Core) { c.Host = impl.Fetch(c.Host) })
	case 3:
		p.change(func(c *impl.Core) { *c = impl.Restart(*c) })
	}
}

// rest is a pair at rest with a host of its own making.
func (d *dice) rest(t *testing.T) pair {
	t.Helper()
	c := d.config()
	c.Events = 8 + d.roll(8)
	return pairOf(impl.Ref{Core: impl.Core{Host: hostWith(t, c.Boxes, c.Fifo, c.Policy, c.Events, d.filters()...)}})
}

// A wire with several, whose samples are now and then flipped; pair.step and pair.drive look at the promise.
func TestP12OnABus(t *testing.T) {
	d := dice(122)
	kinds := map[int]int{}
	for round := range 12 {
		var nodes []pair
		for range 2 + round%3 {
			nodes = append(nodes, d.rest(t))
		}
		for range 1200 {
			level := 1
			for i := range nodes {
				d.meddle(&nodes[i])
				level = min(level, nodes[i].drive(t))
			}
			for i := range nodes {
				bit := level
				if d.roll(6+40*round) == 0 {
					bit = 1 - level
				}
				nodes[i].step(t, bit)
				for _, e := range nodes[i].drained(t) {
					kinds[e.Kind]++
				}
			}
		}
	}
	for kind := impl.EvSent; kind <= impl.EvFetched; kind++ {
		if kinds[kind] == 0 {
			t.Errorf("no event of kind %d: %v", kind, kinds)
		}
	}
}

// expectP10 looks at one step by the words of the promise; the queue was empty ahead of it.
func expectP10(t *testing.T, state int, p *pair) int {
	t.Helper()
	for _, c := range []impl.Core{p.ref.Core, p.opt.Core} {
		off, passive := c.Tec == 256, c.Tec >= 128 || c.Rec >= 128
		now := impl.ErrorState(c)
		if (now == impl.StateOff) != off || (now == impl.StatePassive) != (passive && !off) || !in(c.Tec, 0, 256) || !in(c.Rec, 0, 255) {
			t.Fatalf("state %d of %+v", now, c)
		}
	}
	var told []int
	for _, e := range p.drained(t) {
		if e.Kind == impl.EvState {
			told = append(told, e.A)
		}
	}
	now := impl.ErrorState(p.ref.Core)
	if now != state && !slices.Equal(told, []int{now}) || now == state && len(told) > 0 {
		t.Fatalf("from state %d to %d: told %v", state, now, told)
	}
	return now
}

// plan is a row of levels to sample: one level, a whole frame, or what is driven ('=') with some of it turned ('!').
func (d *dice) plan(asked bool) string {
	if asked && d.roll(3) > 0 {
		return strings.Repeat("1", impl.RecoverRuns*impl.RecoverBits)
	}
	switch d.roll(6) {
	case 0:
		return strings.Repeat("0", 1+d.roll(30))
	case 1:
		return strings.Repeat("1", 1+d.roll(30))
	case 2:
		return strings.Repeat("1", 20) + asHeardBySender(d.anyFrame()) + "111"
	}
	out := []byte(strings.Repeat("=", 100))
	for range d.roll(10) {
		out[d.roll(len(out))] = '!'
	}
	return string(out)
}

func sampled(driven int, planned byte) int {
	switch planned {
	case '=':
		return driven
	case '!':
		return 1 - driven
	}
	return int(planned - '0')
}

func TestP10OverAnyStepsFromRest(t *testing.T) {
	d := dice(131)
	changes := map[[2]int]int{}
	for round := range 24 {
		p := d.rest(t)
		state, plan := impl.StateActive, ""
		for range 2500 {
			if hearsAlone := round%3 == 0; !hearsAlone {
				d.meddle(&p)
				state = expectP10(t, state, &p)
			}
			if plan == "" {
				plan = d.plan(p.ref.Core.Asked)
			}
			p.step(t, sampled(p.drive(t), plan[0]))
			plan = plan[1:]
			now := expectP10(t, state, &p)
			changes[[2]int{state, now}]++
			state = now
		}
	}
	for _, change := range [][2]int{{impl.StateActive, impl.StatePassive}, {impl.StatePassive, impl.StateActive}, {impl.StatePassive, impl.StateOff}, {impl.StateOff, impl.StateActive}} {
		if changes[change] == 0 {
			t.Errorf("no step led from state %d to state %d: %v", change[0], change[1], changes)
		}
	}
}

// A sender alone: sixteen errors of eight make it passive. Then it owes its eight and stays; with a dominant level in each flag it goes off.
func TestP10ASenderAlone(t *testing.T) {
	p := pairOf(atRest(t, impl.Frame{Id: 0x2aa}))
	state, faults := impl.StateActive, 0
	for range 4000 {
		p.step(t, p.drive(t))
		for _, e := range p.drained(t) {
			switch e.Kind {
			case impl.EvError:
				faults++
				if e.A != impl.ErrAck || e.B != 1 {
					t.Fatalf("error %+v", e)
				}
			case impl.EvState:
				state = e.A
				if faults != 16 {
					t.Errorf("state %d behind %d errors", state, faults)
				}
			}
		}
	}
	if state != impl.StatePassive || p.ref.Core.Tec != 128 || faults < 30 {
		t.Errorf("state %d, Tec %d, %d errors", state, p.ref.Core.Tec, faults)
	}
	for range 4000 {
		bit := p.drive(t)
		if p.ref.Core.Phase == impl.PhaseFlag && p.ref.Core.Owed {
			bit = 0
		}
		p.step(t, bit)
		state = expectP10(t, state, &p)
	}
	if state != impl.StateOff || p.ref.Core.Tec != 256 {
		t.Errorf("state %d, Tec %d", state, p.ref.Core.Tec)
	}
}

// With the queue full the change is not told, and counted as lost.
func TestP10WithoutRoomInTheQueue(t *testing.T) {
	r := senderAt(t, impl.Frame{Id: 5}, 3)
	r.Core.Tec = 248
	r.Core.Host.Cfg.Events, r.Core.Host.Queue = 1, []impl.Event{{Kind: impl.EvMiss}}
	p := behindStep(t, r, 1)
	expectPair(t, "no room", p, impl.Core{Phase: impl.PhaseOff, Tec: 256}, "", [2]int{impl.EvMiss, 0})
	if p.ref.Core.Host.Lost != 2 || p.opt.Core.Host.Lost != 2 {
		t.Errorf("%d lost", p.ref.Core.Host.Lost)
	}
}

// Off the bus it drives 1 at every bit, whatever is sampled, and nothing but Restart brings it on its way.
func TestP11OffItDrivesOne(t *testing.T) {
	d := dice(141)
	for _, asked := range []bool{false, true} {
		r := atRest(t, impl.Frame{}, impl.Frame{Id: 4})
		r.Core.Phase, r.Core.Tec, r.Core.Rec, r.Core.Asked = impl.PhaseOff, 256, 200, asked
		p := pairOf(r)
		for i := range 5000 {
			if p.drive(t) != 1 {
				t.Fatalf("drives 0 at bit %d", i)
			}
			p.step(t, map[bool]int{true: d.roll(2), false: 1}[asked])
		}
		if c := p.ref.Core; c.Phase != impl.PhaseOff || c.Tec != 256 || c.Rec != 200 || len(c.Host.Queue) > 0 {
			t.Errorf("asked %v: %+v", asked, c)
		}
	}
}

// home feeds what leads home, with dominant levels that break runs, and wants it off up to the last bit.
func home(t *testing.T, p *pair, breaks func(run int) string) {
	t.Helper()
	for run := range impl.RecoverRuns {
		levels := breaks(run) + strings.Repeat("1", impl.RecoverBits)
		if run == impl.RecoverRuns-1 {
			levels = levels[:len(levels)-1]
		}
		if out := p.take(t, levels); strings.Contains(out, "0") {
			t.Fatalf("drives %q on its way", out)
		}
		if p.ref.Core.Phase != impl.PhaseOff || impl.ErrorState(p.opt.Core) != impl.StateOff {
			t.Fatalf("home too early, in run %d", run)
		}
	}
	if got := p.drained(t); len(got) > 0 {
		t.Fatalf("events on the way: %+v", got)
	}
	if p.drive(t) != 1 {
		t.Fatalf("drives 0 at the last bit")
	}
	p.step(t, 1)
	expectPair(t, "home", *p, impl.Core{}, "", [2]int{impl.EvState, impl.StateActive})
	p.drained(t)
}

func TestP11TheWayHome(t *testing.T) {
	d := dice(142)
	for _, breaks := range []func(int) string{
		func(int) string { return "" },
		func(int) string { return "0" },
		func(int) string { return "1111111111" + "0" },
		func(int) string { return strings.Repeat("1", d.roll(11)) + strings.Repeat("0", 1+d.roll(3)) },
	} {
		f := impl.Frame{Id: 0x111, Dlc: 1, Data: []uint8{1}}
		r := senderAt(t, f, 15)
		r.Core.Tec, r.Core.Rec = 248, 7
		p := behindStep(t, r, 1-slowRefLevel(r))
		expectPair(t, "off", p, impl.Core{Phase: impl.PhaseOff, Tec: 256, Rec: 7}, "", [2]int{impl.EvError, impl.ErrBit}, [2]int{impl.EvState, impl.StateOff})
		p.drained(t)
		p.take(t, strings.Repeat("1", 2*impl.RecoverRuns*impl.RecoverBits))
		p.change(func(c *impl.Core) { *c = impl.Restart(*c) })
		if got := kindsOf(p.drained(t)); !slices.Equal(got, [][2]int{{impl.EvRestart, 1}}) {
			t.Fatalf("Restart: %v", got)
		}
		home(t, &p, breaks)
		if out := p.take(t, asHeardBySender(f)); out != impl.Encode(f) {
			t.Errorf("home, it sends %q", out)
		}
		if got := kindsOf(p.drained(t)); !slices.Equal(got, [][2]int{{impl.EvSent, 0}}) {
			t.Errorf("home, it tells %v", got)
		}
	}
}

// A second Restart on the way neither helps nor hinders.
func TestP11RestartTwice(t *testing.T) {
	r := atRest(t)
	r.Core.Phase, r.Core.Tec = impl.PhaseOff, 256
	p := pairOf(r)
	p.change(func(c *impl.Core) { *c = impl.Restart(*c) })
	p.drained(t)
	home(t, &p, func(run int) string {
		p.change(func(c *impl.Core) { *c = impl.Restart(*c) })
		if got := kindsOf(p.drained(t)); !slices.Equal(got, [][2]int{{impl.EvRestart, 0}}) {
			t.Fatalf("Restart in run %d: %v", run, got)
		}
		return ""
	})
}
