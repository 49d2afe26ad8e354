package tests

import (
	"math"
	"slices"
	"strings"
	"testing"

	"loop.example/s01647/impl"
)

// Every phase, count and mark that is valid, with the counters at their edges, under every call.
func TestCoresAgainstTheSlowOne(t *testing.T) {
	h := hostWith(t, 2, 1, impl.PolicyNew, 3)
	waiting := impl.Submit(impl.Submit(h, 3, impl.Frame{Id: 9}), 4, impl.Frame{Id: 8})
	doomed := impl.Abort(sendingHost(waiting), 4)
	calls := everyCoreCall()
	cores := slices.Concat(bareCores(h), bareCores(waiting), bareCores(sendingHost(waiting)), bareCores(doomed))
	phases := map[int]int{}
	for _, c := range cores {
		phases[c.Phase]++
		for _, n := range countersOf() {
			if c.Phase != impl.PhaseOff {
				c.Tec = n[0]
			}
			c.Rec = n[1]
			for _, k := range calls {
				expectCoreCall(t, c, k)
			}
		}
	}
	for phase := range 8 {
		if phases[phase] == 0 {
			t.Errorf("no core in phase %d", phase)
		}
	}
}

func TestCoresByTheDice(t *testing.T) {
	d := dice(91)
	calls := everyCoreCall()
	for range 3000 {
		c := d.core()
		before := impl.Core{Host: copyHost(c.Host)}
		for _, k := range calls {
			got := expectCoreCall(t, c, k)
			if !isZeroCore(got) && !isValidCore(got) {
				t.Fatalf("%+v of %+v is not valid: %+v", k, c, got)
			}
			expectApart(t, "the answer", hostRegions(got.Host)...)
			expectApart(t, "answer and argument", slices.Concat(hostRegions(got.Host), hostRegions(c.Host), []region{regionOf(k.f.Data)})...)
		}
		if !sameHosts(c.Host, before.Host) {
			t.Fatalf("a call wrote into %+v", before.Host)
		}
	}
}

func TestErrorStateOfEveryCore(t *testing.T) {
	for _, c := range []struct {
		phase, tec, rec, want int
	}{
		{impl.PhaseIdle, 0, 0, impl.StateActive},
		{impl.PhaseFrame, 127, 127, impl.StateActive},
		{impl.PhaseFrame, 128, 0, impl.StatePassive},
		{impl.PhaseGap, 0, 128, impl.StatePassive},
		{impl.PhaseSuspend, 255, 255, impl.StatePassive},
		{impl.PhaseOff, 256, 0, impl.StateOff},
		{impl.PhaseOff, 0, 0, impl.StateOff},
		{impl.PhaseOff, 128, 255, impl.StateOff},
		{impl.PhaseIdle, 256, 0, impl.StatePassive},
		{impl.PhaseIdle, -1, -1, impl.StateActive},
		{impl.PhaseIdle, math.MinInt, math.MaxInt, impl.StatePassive},
		{impl.PhaseIdle, math.MaxInt, math.MinInt, impl.StatePassive},
		{-1, 128, 0, impl.StatePassive},
		{8, 0, 0, impl.StateActive},
	} {
		for _, host := range []impl.Host{{}, hostWith(t, 1, 1, impl.PolicyOld, 1)} {
			if got := impl.ErrorState(impl.Core{Phase: c.phase, Tec: c.tec, Rec: c.rec, Host: host}); got != c.want {
				t.Errorf("ErrorState of %+v = %d", c, got)
			}
		}
	}
}

// spoiledCores are copies of a valid Core with one thing changed; most, but not all, are not valid.
func spoiledCores(c impl.Core) []impl.Core {
	var out []impl.Core
	change := func(act func(*impl.Core)) {
		s := c
		s.Host = copyHost(c.Host)
		act(&s)
		out = append(out, s)
	}
	for _, n := range []int{math.MinInt, -1, 0, 1, 2, 3, 5, 6, 7, 8, 10, 11, 15, 16, 127, 128, 255, 256, 257, 1 << 32, math.MaxInt} {
		change(func(s *impl.Core) { s.Phase = n })
		change(func(s *impl.Core) { s.Count = n })
		change(func(s *impl.Core) { s.Level = n })
		change(func(s *impl.Core) { s.Runs = n })
		change(func(s *impl.Core) { s.Tec = n })
		change(func(s *impl.Core) { s.Rec = n })
	}
	change(func(s *impl.Core) { s.Weak = !s.Weak })
	change(func(s *impl.Core) { s.Over = !s.Over })
	change(func(s *impl.Core) { s.Owed = !s.Owed })
	change(func(s *impl.Core) { s.Tx = !s.Tx })
	change(func(s *impl.Core) { s.Asked = !s.Asked })
	change(func(s *impl.Core) { s.Host = impl.Host{} })
	change(func(s *impl.Core) { s.Host.Lost = -1 })
	change(func(s *impl.Core) { s.Host.Boxes[0] = impl.Box{State: impl.BoxSending, Stamp: s.Host.Stamp - 1} })
	change(func(s *impl.Core) { s.Host = impl.Release(s.Host, false) })
	return out
}

func TestEachThingThatMakesACoreWrong(t *testing.T) {
	h := impl.Submit(hostWith(t, 2, 1, impl.PolicyOld, 3), 1, impl.Frame{})
	cores := append(bareCores(h), bareCores(sendingHost(h))...)
	wrong := 0
	for _, c := range cores {
		for _, s := range spoiledCores(c) {
			if !isValidCore(s) {
				wrong++
			}
			for _, k := range []coreCall{{kind: callStep}, {kind: callStep, n: 1}, {kind: callFault, n: impl.ErrAck}, {kind: callFinish, n: impl.FinishSent}, {kind: callFinish, n: impl.FinishQuiet}, {kind: callRestart}} {
				expectCoreCall(t, s, k)
			}
		}
	}
	if wrong < 10000 {
		t.Errorf("only %d of the cores were not valid", wrong)
	}
	base := impl.Core{Phase: impl.PhaseGap, Host: h}
	for _, host := range spoiledHosts(h) {
		base.Host = host
		for _, k := range []coreCall{{kind: callStep, n: 1}, {kind: callRestart}} {
			expectCoreCall(t, base, k)
		}
	}
	for _, k := range everyCoreCall() {
		if got := k.made(impl.Core{}); !isZeroCore(got) {
			t.Errorf("%+v of the zero Core is %+v", k, got)
		}
	}
}

// walked steps a core through levels, and fails if one answer is the zero Core.
func walked(t *testing.T, c impl.Core, levels string) impl.Core {
	t.Helper()
	for i, level := range levels {
		c = impl.CoreStep(c, int(level-'0'))
		if isZeroCore(c) {
			t.Fatalf("the zero Core behind %q", levels[:i+1])
		}
	}
	return c
}

// expectCore names what is not the host; the events are told by their kinds and A.
func expectCore(t *testing.T, what string, c impl.Core, want impl.Core, events ...[2]int) {
	t.Helper()
	if bareCore(c) != bareCore(want) {
		t.Errorf("%s: %+v, want %+v", what, bareCore(c), bareCore(want))
	}
	var got [][2]int
	for _, e := range c.Host.Queue {
		got = append(got, [2]int{e.Kind, e.A})
	}
	if !slices.Equal(got, events) {
		t.Errorf("%s: events %v, want %v", what, got, events)
	}
}

// A flag that begins in each error state, by a sender and by a hearer, out of each phase that may see a fault.
func TestFaultInEachState(t *testing.T) {
	h := hostWith(t, 1, 1, impl.PolicyOld, 8)
	on := sendingHost(impl.Submit(h, 2, impl.Frame{Id: 1}))
	sees := func(kind int) [2]int { return [2]int{impl.EvError, kind} }
	state := func(s int) [2]int { return [2]int{impl.EvState, s} }
	for _, c := range []struct {
		name   string
		core   impl.Core
		kind   int
		want   impl.Core
		events [][2]int
	}{
		{"active hearer", impl.Core{Phase: impl.PhaseFrame, Host: h}, impl.ErrCrc,
			impl.Core{Phase: impl.PhaseFlag, Rec: 1}, [][2]int{sees(impl.ErrCrc)}},
		{"hearer at 127", impl.Core{Phase: impl.PhaseFrame, Rec: 127, Host: h}, impl.ErrStuff,
			impl.Core{Phase: impl.PhaseFlag, Rec: 128}, [][2]int{sees(impl.ErrStuff), state(impl.StatePassive)}},
		{"passive hearer", impl.Core{Phase: impl.PhaseFrame, Rec: 128, Host: h}, impl.ErrForm,
			impl.Core{Phase: impl.PhaseFlag, Weak: true, Rec: 129}, [][2]int{sees(impl.ErrForm)}},
		{"hearer passive as a sender", impl.Core{Phase: impl.PhaseFrame, Tec: 128, Host: h}, impl.ErrForm,
			impl.Core{Phase: impl.PhaseFlag, Weak: true, Tec: 128, Rec: 1}, [][2]int{sees(impl.ErrForm)}},
		{"hearer in its flag", impl.Core{Phase: impl.PhaseFlag, Count: 3, Rec: 250, Host: h}, impl.ErrBit,
			impl.Core{Phase: impl.PhaseFlag, Weak: true, Rec: 255}, [][2]int{sees(impl.ErrBit)}},
		{"hearer in an overload flag", impl.Core{Phase: impl.PhaseFlag, Count: 3, Over: true, Host: h}, impl.ErrBit,
			impl.Core{Phase: impl.PhaseFlag, Rec: 8}, [][2]int{sees(impl.ErrBit)}},
		{"hearer in a delimiter", impl.Core{Phase: impl.PhaseDelim, Count: 7, Over: true, Rec: 254, Host: h}, impl.ErrAck,
			impl.Core{Phase: impl.PhaseFlag, Weak: true, Rec: 255}, [][2]int{sees(impl.ErrAck)}},
		{"hearer at the top", impl.Core{Phase: impl.PhaseFrame, Rec: 255, Host: h}, impl.ErrArbStuff,
			impl.Core{Phase: impl.PhaseFlag, Weak: true, Rec: 255}, [][2]int{sees(impl.ErrArbStuff)}},
		{"active sender", impl.Core{Phase: impl.PhaseFrame, Tx: true, Tec: 119, Host: on}, impl.ErrBit,
			impl.Core{Phase: impl.PhaseFlag, Tx: true, Tec: 127}, [][2]int{sees(impl.ErrBit)}},
		{"sender at 120", impl.Core{Phase: impl.PhaseFrame, Tx: true, Tec: 120, Host: on}, impl.ErrAck,
			impl.Core{Phase: impl.PhaseFlag, Tx: true, Tec: 128}, [][2]int{sees(impl.ErrAck), state(impl.StatePassive)}},
		{"passive sender", impl.Core{Phase: impl.PhaseFrame, Tx: true, Tec: 128, Host: on}, impl.ErrBit,
			impl.Core{Phase: impl.PhaseFlag, Tx: true, Weak: true, Tec: 136}, [][2]int{sees(impl.ErrBit)}},
		{"passive sender without an answer", impl.Core{Phase: impl.PhaseFrame, Tx: true, Rec: 128, Tec: 250, Host: on}, impl.ErrAck,
			impl.Core{Phase: impl.PhaseFlag, Tx: true, Weak: true, Owed: true, Rec: 128, Tec: 250}, [][2]int{sees(impl.ErrAck)}},
		{"a stuff bit in the arbitration", impl.Core{Phase: impl.PhaseFrame, Tx: true, Tec: 255, Host: on}, impl.ErrArbStuff,
			impl.Core{Phase: impl.PhaseFlag, Tx: true, Weak: true, Tec: 255}, [][2]int{sees(impl.ErrArbStuff)}},
		{"sender at 247", impl.Core{Phase: impl.PhaseFrame, Tx: true, Tec: 247, Host: on}, impl.ErrBit,
			impl.Core{Phase: impl.PhaseFlag, Tx: true, Weak: true, Tec: 255}, [][2]int{sees(impl.ErrBit)}},
		{"sender at 248 goes off", impl.Core{Phase: impl.PhaseFrame, Tx: true, Tec: 248, Rec: 77, Host: on}, impl.ErrBit,
			impl.Core{Phase: impl.PhaseOff, Tec: 256, Rec: 77}, [][2]int{sees(impl.ErrBit), state(impl.StateOff)}},
		{"sender goes off in its delimiter", impl.Core{Phase: impl.PhaseDelim, Count: 4, Tx: true, Over: true, Tec: 255, Host: h}, impl.ErrForm,
			impl.Core{Phase: impl.PhaseOff, Tec: 256}, [][2]int{sees(impl.ErrForm), state(impl.StateOff)}},
		{"doomed", impl.Core{Phase: impl.PhaseFrame, Tx: true, Tec: 127, Host: impl.Abort(on, 2)}, impl.ErrBit,
			impl.Core{Phase: impl.PhaseFlag, Tx: true, Tec: 135}, [][2]int{sees(impl.ErrBit), {impl.EvAborted, 2}, state(impl.StatePassive)}},
	} {
		got := impl.Fault(c.core, c.kind)
		expectCore(t, c.name, got, c.want, c.events...)
		if e := got.Host.Queue[0]; (e.B == 1) != c.core.Tx || in(e.B, 0, 1) == false {
			t.Errorf("%s: B of the error is %d", c.name, e.B)
		}
		if boxOnWire(got.Host) >= 0 {
			t.Errorf("%s: a box is still on the wire", c.name)
		}
	}
}

// The eight that are owed come with the first dominant level in the flag, and only once.
func TestTheEightThatAreOwed(t *testing.T) {
	h := hostWith(t, 1, 1, impl.PolicyOld, 8)
	owed := impl.Core{Phase: impl.PhaseFlag, Weak: true, Owed: true, Tx: true, Tec: 128, Host: h}
	expectCore(t, "six recessive", walked(t, owed, "111111"), impl.Core{Phase: impl.PhaseWait, Tx: true, Tec: 128})
	expectCore(t, "five recessive", walked(t, owed, "11111"), impl.Core{Phase: impl.PhaseFlag, Count: 5, Level: 1, Weak: true, Owed: true, Tx: true, Tec: 128})
	expectCore(t, "the sixth dominant", walked(t, owed, "111110"), impl.Core{Phase: impl.PhaseFlag, Count: 1, Weak: true, Tx: true, Tec: 136})
	expectCore(t, "six dominant", walked(t, owed, "000000"), impl.Core{Phase: impl.PhaseWait, Tx: true, Tec: 136})
	expectCore(t, "changing", walked(t, owed, "0101"), impl.Core{Phase: impl.PhaseFlag, Count: 1, Level: 1, Weak: true, Tx: true, Tec: 136})
	owed.Tec = 247
	expectCore(t, "at 247", walked(t, owed, "0"), impl.Core{Phase: impl.PhaseFlag, Count: 1, Weak: true, Tx: true, Tec: 255})
	for _, count := range []int{0, 5} {
		owed.Tec, owed.Count, owed.Rec = 248, count, 9
		expectCore(t, "at 248", walked(t, owed, "0"), impl.Core{Phase: impl.PhaseOff, Tec: 256, Rec: 9}, [2]int{impl.EvState, impl.StateOff})
	}
}

func TestFlagsOfBothKinds(t *testing.T) {
	h := hostWith(t, 1, 1, impl.PolicyOld, 8)
	strong := impl.Core{Phase: impl.PhaseFlag, Host: h}
	expectCore(t, "five of a strong flag", walked(t, strong, "00000"), impl.Core{Phase: impl.PhaseFlag, Count: 5})
	expectCore(t, "a strong flag", walked(t, strong, "000000"), impl.Core{Phase: impl.PhaseWait})
	expectCore(t, "a strong flag broken", walked(t, strong, "0001"), impl.Core{Phase: impl.PhaseFlag, Rec: 8}, [2]int{impl.EvError, impl.ErrBit})
	strong.Over = true
	expectCore(t, "an overload flag", walked(t, strong, "000000"), impl.Core{Phase: impl.PhaseWait, Over: true})
	weak := impl.Core{Phase: impl.PhaseFlag, Weak: true, Rec: 128, Host: h}
	expectCore(t, "a weak flag", walked(t, weak, "111111"), impl.Core{Phase: impl.PhaseWait, Rec: 128})
	expectCore(t, "a weak flag under a strong one", walked(t, weak, "1110001000000"), impl.Core{Phase: impl.PhaseWait, Rec: 128})
}

// Dominant levels behind a flag: the first, the eighth, and each eighth behind that.
func TestDominantLevelsBehindAFlag(t *testing.T) {
	h := hostWith(t, 1, 1, impl.PolicyOld, 8)
	for _, c := range []struct {
		levels           int
		hearer, sender   int
		overHearer, over int
		count            int
	}{
		{0, 0, 0, 0, 0, 0}, {1, 8, 0, 0, 0, 1}, {7, 8, 0, 0, 0, 7}, {8, 16, 8, 8, 8, 8}, {15, 16, 8, 8, 8, 15},
		{16, 24, 16, 16, 16, 8}, {23, 24, 16, 16, 16, 15}, {24, 32, 24, 24, 24, 8}, {32, 40, 32, 32, 32, 8},
	} {
		levels := strings.Repeat("0", c.levels)
		hearer := impl.Core{Phase: impl.PhaseWait, Host: h}
		sender := impl.Core{Phase: impl.PhaseWait, Tx: true, Host: h}
		expectCore(t, "hearer "+levels, walked(t, hearer, levels), impl.Core{Phase: impl.PhaseWait, Count: c.count, Rec: c.hearer})
		expectCore(t, "sender "+levels, walked(t, sender, levels), impl.Core{Phase: impl.PhaseWait, Count: c.count, Tx: true, Tec: c.sender})
		expectCore(t, "then recessive "+levels, walked(t, hearer, levels+"1"), impl.Core{Phase: impl.PhaseDelim, Count: 1, Rec: c.hearer})
		hearer.Over, sender.Over = true, true
		expectCore(t, "hearer, overload "+levels, walked(t, hearer, levels), impl.Core{Phase: impl.PhaseWait, Over: true, Count: c.count, Rec: c.overHearer})
		expectCore(t, "sender, overload "+levels, walked(t, sender, levels), impl.Core{Phase: impl.PhaseWait, Over: true, Count: c.count, Tx: true, Tec: c.over})
	}
	last := impl.Core{Phase: impl.PhaseWait, Count: 7, Tx: true, Tec: 248, Rec: 3, Host: h}
	expectCore(t, "the eighth puts it off", walked(t, last, "0"), impl.Core{Phase: impl.PhaseOff, Tec: 256, Rec: 3}, [2]int{impl.EvState, impl.StateOff})
	last.Count = 15
	expectCore(t, "the sixteenth puts it off", walked(t, last, "0"), impl.Core{Phase: impl.PhaseOff, Tec: 256, Rec: 3}, [2]int{impl.EvState, impl.StateOff})
	expectCore(t, "a hearer turns passive", walked(t, impl.Core{Phase: impl.PhaseWait, Rec: 120, Host: h}, "0"), impl.Core{Phase: impl.PhaseWait, Count: 1, Rec: 128}, [2]int{impl.EvState, impl.StatePassive})
	expectCore(t, "a hearer at the top", walked(t, impl.Core{Phase: impl.PhaseWait, Rec: 250, Host: h}, "0"), impl.Core{Phase: impl.PhaseWait, Count: 1, Rec: 255})
}

func TestDelimiterAndOverload(t *testing.T) {
	h := hostWith(t, 1, 1, impl.PolicyOld, 8)
	overload := [2]int{impl.EvOverload, 0}
	for _, tx := range []bool{false, true} {
		c := impl.Core{Phase: impl.PhaseDelim, Count: 1, Over: true, Tx: tx, Host: h}
		expectCore(t, "a whole delimiter", walked(t, c, "1111111"), impl.Core{Phase: impl.PhaseGap, Tx: tx})
		expectCore(t, "its last bit dominant", walked(t, c, "1111110"), impl.Core{Phase: impl.PhaseFlag, Over: true, Tx: tx}, overload)
		for _, levels := range []string{"0", "10", "111110"} {
			want := impl.Core{Phase: impl.PhaseFlag, Rec: 1}
			if tx {
				want = impl.Core{Phase: impl.PhaseFlag, Tx: true, Tec: 8}
			}
			expectCore(t, "an earlier one dominant", walked(t, c, levels), want, [2]int{impl.EvError, impl.ErrForm})
		}
		c = impl.Core{Phase: impl.PhaseGap, Tx: tx, Host: impl.Submit(h, 1, impl.Frame{})}
		expectCore(t, "the gap's first bit", walked(t, c, "0"), impl.Core{Phase: impl.PhaseFlag, Over: true, Tx: tx}, overload)
		expectCore(t, "the gap's second bit", walked(t, c, "10"), impl.Core{Phase: impl.PhaseFlag, Over: true, Tx: tx}, overload)
	}
}

// The gap's third bit: who joins as a sender, who suspends.
func TestTheGapsThirdBit(t *testing.T) {
	h := hostWith(t, 2, 1, impl.PolicyOld, 8)
	waiting := impl.Submit(impl.Submit(h, 1, impl.Frame{Id: 9}), 2, impl.Frame{Id: 4})
	for _, c := range []struct {
		name     string
		tx       bool
		tec, rec int
		joins    bool
		suspends bool
	}{
		{"active hearer", false, 127, 127, true, false},
		{"active sender", true, 127, 127, true, false},
		{"passive hearer", false, 128, 0, true, false},
		{"passive sender", true, 128, 0, false, true},
		{"sender, passive as a hearer", true, 0, 128, false, true},
	} {
		core := impl.Core{Phase: impl.PhaseGap, Count: 2, Tx: c.tx, Tec: c.tec, Rec: c.rec, Host: waiting}
		after := walked(t, core, "1")
		want := impl.Core{Tec: c.tec, Rec: c.rec}
		if c.suspends {
			want.Phase, want.Tx = impl.PhaseSuspend, true
		}
		expectCore(t, c.name+", recessive", after, want)
		got := walked(t, core, "0")
		expectCore(t, c.name+", dominant", got, impl.Core{Phase: impl.PhaseFrame, Tx: c.joins, Tec: c.tec, Rec: c.rec})
		onWire := -1
		if c.joins {
			onWire = 1
		}
		if boxOnWire(got.Host) != onWire {
			t.Errorf("%s: box %d is on the wire, want %d", c.name, boxOnWire(got.Host), onWire)
		}
		core.Host = h
		expectCore(t, c.name+", nothing to send", walked(t, core, "0"), impl.Core{Phase: impl.PhaseFrame, Tec: c.tec, Rec: c.rec})
	}
}

func TestSuspension(t *testing.T) {
	h := impl.Submit(hostWith(t, 1, 1, impl.PolicyOld, 8), 1, impl.Frame{})
	c := impl.Core{Phase: impl.PhaseSuspend, Tx: true, Tec: 128, Host: h}
	expectCore(t, "seven", walked(t, c, "1111111"), impl.Core{Phase: impl.PhaseSuspend, Count: 7, Tx: true, Tec: 128})
	expectCore(t, "eight", walked(t, c, "11111111"), impl.Core{Phase: impl.PhaseIdle, Tec: 128})
	for _, levels := range []string{"0", "10", "11111110"} {
		expectCore(t, levels, walked(t, c, levels), impl.Core{Phase: impl.PhaseFrame, Tec: 128})
	}
	rest := impl.Core{Host: h}
	expectCore(t, "at rest", walked(t, rest, "1111"), impl.Core{})
	expectCore(t, "a start at rest", walked(t, rest, "10"), impl.Core{Phase: impl.PhaseFrame})
}

func TestFinish(t *testing.T) {
	h := hostWith(t, 1, 1, impl.PolicyOld, 8)
	on := sendingHost(impl.Submit(h, 2, impl.Frame{Id: 1}))
	f := impl.Frame{Id: 3, Dlc: 1, Data: []uint8{1}}
	sender := func(tec int, host impl.Host) impl.Core {
		return impl.Core{Phase: impl.PhaseFrame, Tx: true, Tec: tec, Host: host}
	}
	hearer := func(rec int) impl.Core { return impl.Core{Phase: impl.PhaseFrame, Rec: rec, Host: h} }
	sent, got := [2]int{impl.EvSent, 2}, [2]int{impl.EvReceived, 0}
	active := [2]int{impl.EvState, impl.StateActive}
	expectCore(t, "sent", impl.Finish(sender(0, on), impl.FinishSent, f), impl.Core{Phase: impl.PhaseGap, Tx: true}, sent)
	expectCore(t, "sent at 128", impl.Finish(sender(128, on), impl.FinishSent, impl.Frame{Dlc: -1}), impl.Core{Phase: impl.PhaseGap, Tx: true, Tec: 127}, sent, active)
	expectCore(t, "sent at 255", impl.Finish(sender(255, impl.Abort(on, 2)), impl.FinishSent, f), impl.Core{Phase: impl.PhaseGap, Tx: true, Tec: 254}, sent)
	expectCore(t, "lost", impl.Finish(sender(9, on), impl.FinishLost, f), impl.Core{Phase: impl.PhaseFrame, Tec: 9})
	expectCore(t, "lost and doomed", impl.Finish(sender(9, impl.Abort(on, 2)), impl.FinishLost, f), impl.Core{Phase: impl.PhaseFrame, Tec: 9}, [2]int{impl.EvAborted, 2})
	expectCore(t, "heard", impl.Finish(hearer(0), impl.FinishHeard, f), impl.Core{Phase: impl.PhaseFrame}, got)
	expectCore(t, "heard at 127", impl.Finish(hearer(127), impl.FinishHeard, f), impl.Core{Phase: impl.PhaseFrame, Rec: 126}, got)
	expectCore(t, "heard at 128", impl.Finish(hearer(128), impl.FinishHeard, f), impl.Core{Phase: impl.PhaseFrame, Rec: 127}, got, active)
	expectCore(t, "heard at 255", impl.Finish(hearer(255), impl.FinishHeard, f), impl.Core{Phase: impl.PhaseFrame, Rec: 127}, got, active)
	expectCore(t, "quiet", impl.Finish(hearer(200), impl.FinishQuiet, impl.Frame{Dlc: -1}), impl.Core{Phase: impl.PhaseGap, Rec: 200})
	expectCore(t, "overload", impl.Finish(hearer(200), impl.FinishOver, impl.Frame{Dlc: -1}), impl.Core{Phase: impl.PhaseFlag, Over: true, Rec: 200}, [2]int{impl.EvOverload, 0})
	for how := -1; how <= 7; how++ {
		forSender := isOneOf(how, impl.FinishSent, impl.FinishLost)
		forHearer := in(how, impl.FinishHeard, impl.FinishOver)
		if isZeroCore(impl.Finish(sender(1, on), how, f)) == forSender || isZeroCore(impl.Finish(hearer(1), how, f)) == forHearer {
			t.Errorf("how %d: the wrong side may end it so", how)
		}
		if c := impl.Finish(impl.Core{Phase: impl.PhaseGap, Tx: true, Host: h}, how, f); !isZeroCore(c) {
			t.Errorf("how %d in the gap: %+v", how, c)
		}
	}
	for _, wrong := range wrongFrames() {
		if c := impl.Finish(hearer(1), impl.FinishHeard, wrong); !isZeroCore(c) {
			t.Errorf("heard a wrong frame: %+v", c)
		}
	}
}
