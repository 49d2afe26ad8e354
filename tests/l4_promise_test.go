package tests

import (
	"strings"
	"testing"

	"loop.example/s01647/impl"
)

// expectP19 looks at one call by the words of the promise; the queue was empty ahead of it.
func expectP19(t *testing.T, before impl.Core, k coreCall, after impl.Core) {
	t.Helper()
	if !isValidCore(after) {
		t.Fatalf("%+v of %+v is not valid: %+v", k, before, after)
	}
	state := impl.ErrorState(after)
	off, passive := after.Tec == 256, after.Tec >= 128 || after.Rec >= 128
	if (state == impl.StateOff) != off || (state == impl.StatePassive) != (passive && !off) {
		t.Fatalf("%+v of %+v: state %d of %+v", k, before, state, after)
	}
	queue := after.Host.Queue
	if state != impl.ErrorState(before) {
		if len(queue) == 0 || !sameEvents(queue[len(queue)-1], impl.Event{Kind: impl.EvState, A: state}) {
			t.Fatalf("%+v of %+v: the new state %d is not the last event of %+v", k, before, state, queue)
		}
		queue = queue[:len(queue)-1]
	}
	for _, e := range queue {
		if e.Kind == impl.EvState {
			t.Fatalf("%+v of %+v: a state too many in %+v", k, before, after.Host.Queue)
		}
	}
}

// coreCallFor is a call that its chapter wants of c; levels come in rows, so that every phase is passed.
func (d *dice) coreCallFor(c impl.Core, level int) coreCall {
	mayFault := isOneOf(c.Phase, impl.PhaseFrame, impl.PhaseFlag, impl.PhaseDelim)
	switch {
	case d.roll(40) == 0:
		return coreCall{kind: callRestart}
	case c.Phase == impl.PhaseFrame, mayFault && d.roll(10) == 0:
		return coreCall{kind: callFault, n: 1 + d.roll(6)}
	}
	return coreCall{kind: callStep, n: level}
}

func TestP19EveryCallKeepsTheStateTold(t *testing.T) {
	d := dice(101)
	seen := map[[2]int]int{}
	for range 1500 {
		c := d.core()
		c.Host.Cfg.Events, c.Host.Queue = 3+d.roll(30), nil
		level := 0
		for range 120 {
			if d.roll(6) == 0 {
				level = d.roll(2)
			}
			k := d.coreCallFor(c, level)
			next := k.made(c)
			expectP19(t, c, k, next)
			seen[[2]int{impl.ErrorState(c), impl.ErrorState(next)}]++
			next.Host, _ = impl.Drain(next.Host)
			c = next
		}
	}
	for _, change := range [][2]int{{impl.StateActive, impl.StatePassive}, {impl.StatePassive, impl.StateOff}, {impl.StateOff, impl.StateActive}} {
		if seen[change] == 0 {
			t.Errorf("no call led from state %d to state %d", change[0], change[1])
		}
	}
}

// Every valid phase, count and mark with the counters at their edges: one call of each kind.
func TestP19FromEveryCore(t *testing.T) {
	h := impl.Submit(hostWith(t, 1, 1, impl.PolicyOld, 3), 1, impl.Frame{})
	for _, c := range append(bareCores(h), bareCores(sendingHost(h))...) {
		for _, n := range countersOf() {
			if c.Phase != impl.PhaseOff {
				c.Tec = n[0]
			}
			c.Rec = n[1]
			for _, k := range everyCoreCall() {
				if k.kind != callFinish && k.wanted(c) {
					expectP19(t, c, k, k.made(c))
				}
			}
		}
	}
}

// With room for one event the error takes it, and the state is lost; with none both are.
func TestP19WithoutRoomInTheQueue(t *testing.T) {
	h := hostWith(t, 1, 1, impl.PolicyOld, 1)
	c := impl.Core{Phase: impl.PhaseFlag, Tx: true, Tec: 250, Host: h}
	one := impl.Fault(c, impl.ErrBit)
	expectCore(t, "room for one", one, impl.Core{Phase: impl.PhaseOff, Tec: 256}, [2]int{impl.EvError, impl.ErrBit})
	if one.Host.Lost != 1 {
		t.Errorf("room for one: %d lost", one.Host.Lost)
	}
	c.Host = impl.Fetch(h)
	c.Host.Lost = impl.MaxLost - 1
	none := impl.Fault(c, impl.ErrBit)
	expectCore(t, "room for none", none, impl.Core{Phase: impl.PhaseOff, Tec: 256}, [2]int{impl.EvFetched, 0})
	if none.Host.Lost != impl.MaxLost {
		t.Errorf("room for none: %d lost", none.Host.Lost)
	}
}

func TestRestart(t *testing.T) {
	h := hostWith(t, 1, 1, impl.PolicyOld, 8)
	off := impl.Core{Phase: impl.PhaseOff, Tec: 256, Rec: 44, Host: h}
	expectCore(t, "not asked, nothing comes", walked(t, off, strings.Repeat("1", 2000)), impl.Core{Phase: impl.PhaseOff, Tec: 256, Rec: 44})
	asked := impl.Restart(off)
	expectCore(t, "taken", asked, impl.Core{Phase: impl.PhaseOff, Asked: true, Tec: 256, Rec: 44}, [2]int{impl.EvRestart, 1})
	asked.Count, asked.Runs = 7, 9
	expectCore(t, "asked twice", impl.Restart(asked), impl.Core{Phase: impl.PhaseOff, Asked: true, Count: 7, Runs: 9, Tec: 256, Rec: 44}, [2]int{impl.EvRestart, 1}, [2]int{impl.EvRestart, 0})
	for _, c := range bareCores(h) {
		if c.Phase != impl.PhaseOff {
			expectCore(t, "on the bus", impl.Restart(c), c, [2]int{impl.EvRestart, 0})
		}
	}
}

// The way home: 128 runs of 11, a dominant level costs the run it falls into and no other.
func TestTheWayHome(t *testing.T) {
	h := impl.Submit(hostWith(t, 1, 1, impl.PolicyOld, 8), 1, impl.Frame{})
	c := impl.Core{Phase: impl.PhaseOff, Asked: true, Tec: 256, Rec: 255, Host: h}
	run := strings.Repeat("1", impl.RecoverBits)
	for runs := range impl.RecoverRuns {
		if c.Runs != runs || c.Count != 0 || c.Phase != impl.PhaseOff {
			t.Fatalf("behind %d runs: %+v", runs, bareCore(c))
		}
		for _, broken := range []string{"0", run[1:] + "0", "1000"} {
			c = walked(t, c, broken)
			if c.Runs != runs || c.Count != 0 {
				t.Fatalf("%q behind %d runs: %+v", broken, runs, bareCore(c))
			}
		}
		c = walked(t, c, run[1:])
		expectCore(t, "a bit too few", c, impl.Core{Phase: impl.PhaseOff, Asked: true, Count: 10, Runs: runs, Tec: 256, Rec: 255})
		c = walked(t, c, "1")
	}
	expectCore(t, "home", c, impl.Core{}, [2]int{impl.EvState, impl.StateActive})
	expectCore(t, "it goes on from there", walked(t, c, "110"), impl.Core{Phase: impl.PhaseFrame}, [2]int{impl.EvState, impl.StateActive})
}
