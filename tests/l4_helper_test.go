package tests

import (
	"math"
	"slices"
	"testing"

	"loop.example/s01647/impl"
)

// sameCores compares all but the host by ==, with the lists taken out.
func sameCores(a, b impl.Core) bool {
	return sameHosts(a.Host, b.Host) && bareCore(a) == bareCore(b)
}

// bare is a Core without its host, so that it can be compared and be a key.
type bare struct {
	phase, count, level           int
	weak, over, owed, tx, restart bool
	runs, tec, rec                int
}

func bareCore(c impl.Core) bare {
	return bare{c.Phase, c.Count, c.Level, c.Weak, c.Over, c.Owed, c.Tx, c.Asked, c.Runs, c.Tec, c.Rec}
}

func isZeroCore(c impl.Core) bool {
	return sameCores(c, impl.Core{})
}

// isOneOf asks for a number among others.
func isOneOf(n int, others ...int) bool {
	return slices.Contains(others, n)
}

// isValidCore lists what the document asks of a valid Core, in its order.
func isValidCore(c impl.Core) bool {
	if !isValid(c.Host) || !in(c.Phase, 0, 7) || !in(c.Tec, 0, 256) || !in(c.Rec, 0, 255) {
		return false
	}
	least := []int{0, 0, 0, 0, 1, 0, 0, 0}
	most := []int{0, 0, 5, 15, 7, 2, 7, 10}
	for _, broken := range []bool{
		(c.Phase == impl.PhaseOff) != (c.Tec == 256),
		!in(c.Count, least[c.Phase], most[c.Phase]),
		c.Level != 0 && c.Level != 1,
		c.Level != 0 && !(c.Phase == impl.PhaseFlag && c.Weak && c.Count > 0),
		c.Weak && c.Phase != impl.PhaseFlag,
		c.Weak && c.Over,
		c.Over && !isOneOf(c.Phase, impl.PhaseFlag, impl.PhaseWait, impl.PhaseDelim),
		c.Owed && !c.Weak,
		c.Owed && !c.Tx,
		c.Tx && isOneOf(c.Phase, impl.PhaseIdle, impl.PhaseOff),
		!c.Tx && c.Phase == impl.PhaseSuspend,
		c.Asked && c.Phase != impl.PhaseOff,
		!in(c.Runs, 0, 127),
		c.Runs != 0 && !c.Asked,
		c.Phase == impl.PhaseOff && c.Count != 0 && !c.Asked,
		(boxOnWire(c.Host) >= 0) != (c.Phase == impl.PhaseFrame && c.Tx),
	} {
		if broken {
			return false
		}
	}
	return true
}

// The core a second time, by the words of the document: each rule answers as soon as it has ended.

func slowState(c impl.Core) int {
	switch {
	case c.Phase == impl.PhaseOff:
		return impl.StateOff
	case c.Tec > 127 || c.Rec > 127:
		return impl.StatePassive
	}
	return impl.StateActive
}

func slowAdd(c impl.Core, n int) impl.Core {
	if !c.Tx {
		c.Rec += n
		if c.Rec > 255 {
			c.Rec = 255
		}
		return c
	}
	c.Tec += n
	if c.Tec >= 256 {
		return impl.Core{Phase: impl.PhaseOff, Tec: 256, Rec: c.Rec, Host: c.Host}
	}
	return c
}

func slowTell(start, c impl.Core) impl.Core {
	if slowState(c) != slowState(start) {
		c.Host = slowPost(c.Host, impl.Event{Kind: impl.EvState, A: slowState(c)})
	}
	return c
}

func slowOverload(c impl.Core) impl.Core {
	c.Phase, c.Count, c.Over = impl.PhaseFlag, 0, true
	c.Host = slowPost(c.Host, impl.Event{Kind: impl.EvOverload})
	return c
}

func slowFault(start impl.Core, kind int) impl.Core {
	c := start
	seen := impl.Event{Kind: impl.EvError, A: kind}
	if c.Tx {
		seen.B = 1
	}
	c.Host = slowPost(c.Host, seen)
	if c.Phase == impl.PhaseFrame && c.Tx {
		c.Host = slowRelease(c.Host, false)
	}
	c.Weak = slowState(start) == impl.StatePassive
	c.Owed = c.Weak && c.Tx && kind == impl.ErrAck
	switch {
	case c.Tx && kind == impl.ErrArbStuff, c.Owed:
	case c.Tx, c.Phase == impl.PhaseFlag:
		c = slowAdd(c, 8)
	default:
		c = slowAdd(c, 1)
	}
	if c.Phase != impl.PhaseOff {
		c.Phase, c.Count, c.Level, c.Over = impl.PhaseFlag, 0, 0, false
	}
	return slowTell(start, c)
}

func slowStep(c impl.Core, bit int) impl.Core {
	switch {
	case c.Phase == impl.PhaseFlag && !c.Weak && bit == 1:
		return slowFault(c, impl.ErrBit)
	case c.Phase == impl.PhaseDelim && c.Count < 7 && bit == 0:
		return slowFault(c, impl.ErrForm)
	case c.Phase == impl.PhaseFlag:
		return slowTell(c, slowFlag(c, bit))
	case c.Phase == impl.PhaseWait:
		return slowTell(c, slowWait(c, bit))
	case c.Phase == impl.PhaseOff:
		return slowTell(c, slowOff(c, bit))
	case c.Phase == impl.PhaseGap && c.Count == 2 && bit == 0:
		return slowJoin(c)
	case isOneOf(c.Phase, impl.PhaseDelim, impl.PhaseGap) && bit == 0:
		return slowOverload(c)
	case isOneOf(c.Phase, impl.PhaseIdle, impl.PhaseSuspend) && bit == 0:
		c.Phase, c.Count, c.Tx = impl.PhaseFrame, 0, false
		return c
	case c.Phase == impl.PhaseIdle:
		return c
	}
	return slowCounted(c)
}

// slowCounted is a 1 in the delimiter, the gap or the suspension.
func slowCounted(c impl.Core) impl.Core {
	c.Count++
	switch {
	case c.Phase == impl.PhaseDelim && c.Count == 8:
		c.Phase, c.Count, c.Over = impl.PhaseGap, 0, false
	case c.Phase == impl.PhaseGap && c.Count == 3 && c.Tx && slowState(c) == impl.StatePassive:
		c.Phase, c.Count = impl.PhaseSuspend, 0
	case c.Phase == impl.PhaseGap && c.Count == 3, c.Phase == impl.PhaseSuspend && c.Count == 8:
		c.Phase, c.Count, c.Tx = impl.PhaseIdle, 0, false
	}
	return c
}

func slowJoin(c impl.Core) impl.Core {
	suspended := c.Tx && slowState(c) == impl.StatePassive
	c.Phase, c.Count, c.Tx = impl.PhaseFrame, 0, false
	if best := slowBest(c.Host); best >= 0 && !suspended {
		c.Host, c.Tx = slowTake(c.Host, best), true
	}
	return c
}

func slowFlag(c impl.Core, bit int) impl.Core {
	if c.Owed && bit == 0 {
		c.Owed = false
		c = slowAdd(c, 8)
		if c.Phase == impl.PhaseOff {
			return c
		}
	}
	if !c.Weak || c.Count > 0 && bit == c.Level {
		c.Count++
	} else {
		c.Count = 1
	}
	if c.Weak {
		c.Level = bit
	}
	if c.Count == 6 {
		c.Phase, c.Count, c.Level, c.Weak, c.Owed = impl.PhaseWait, 0, 0, false, false
	}
	return c
}

func slowWait(c impl.Core, bit int) impl.Core {
	if bit == 1 {
		c.Phase, c.Count = impl.PhaseDelim, 1
		return c
	}
	count := c.Count + 1
	c.Count = count
	if count == 16 {
		c.Count = 8
	}
	if count == 1 && !c.Tx && !c.Over || count == 8 || count == 16 {
		return slowAdd(c, 8)
	}
	return c
}

func slowOff(c impl.Core, bit int) impl.Core {
	switch {
	case !c.Asked:
	case bit == 0:
		c.Count = 0
	case c.Count < 10:
		c.Count++
	case c.Runs < 127:
		c.Count, c.Runs = 0, c.Runs+1
	default:
		return impl.Core{Host: c.Host}
	}
	return c
}

func slowFinish(start impl.Core, how int, f impl.Frame) impl.Core {
	c := start
	switch {
	case how == impl.FinishSent && c.Tx:
		c.Host = slowRelease(c.Host, true)
		c.Phase = impl.PhaseGap
		if c.Tec > 0 {
			c.Tec--
		}
	case how == impl.FinishHeard && !c.Tx && impl.ValidFrame(f):
		c.Host = slowDeliver(c.Host, f)
		if c.Rec > 128 {
			c.Rec = 128
		}
		if c.Rec > 0 {
			c.Rec--
		}
	case how == impl.FinishQuiet && !c.Tx:
		c.Phase = impl.PhaseGap
	case how == impl.FinishOver && !c.Tx:
		return slowOverload(c)
	case how == impl.FinishLost && c.Tx:
		c.Host, c.Tx = slowRelease(c.Host, false), false
	default:
		return impl.Core{}
	}
	return slowTell(start, c)
}

func slowRestart(c impl.Core) impl.Core {
	told := impl.Event{Kind: impl.EvRestart}
	if c.Phase == impl.PhaseOff && !c.Asked {
		c.Asked, told.A = true, 1
	}
	c.Host = slowPost(c.Host, told)
	return c
}

// The calls of the layer that change a core.
const (
	callStep = iota
	callFault
	callFinish
	callRestart
)

type coreCall struct {
	kind int
	n    int // a bit, a kind of error or a how
	f    impl.Frame
}

func (k coreCall) made(c impl.Core) impl.Core {
	switch k.kind {
	case callStep:
		return impl.CoreStep(c, k.n)
	case callFault:
		return impl.Fault(c, k.n)
	case callFinish:
		return impl.Finish(c, k.n, k.f)
	}
	return impl.Restart(c)
}

func (k coreCall) slowlyMade(c impl.Core) impl.Core {
	if !k.wanted(c) {
		return impl.Core{}
	}
	switch k.kind {
	case callStep:
		return slowStep(c, k.n)
	case callFault:
		return slowFault(c, k.n)
	case callFinish:
		return slowFinish(c, k.n, k.f)
	}
	return slowRestart(c)
}

// wanted leaves what each how wants to slowFinish.
func (k coreCall) wanted(c impl.Core) bool {
	if !isValidCore(c) {
		return false
	}
	switch k.kind {
	case callStep:
		return c.Phase != impl.PhaseFrame && isOneOf(k.n, 0, 1)
	case callFault:
		return isOneOf(c.Phase, impl.PhaseFrame, impl.PhaseFlag, impl.PhaseDelim) && in(k.n, 1, 6)
	case callFinish:
		return c.Phase == impl.PhaseFrame
	}
	return true
}

// everyCoreCall has each bit, each kind and each how, and one beyond on either side.
func everyCoreCall() []coreCall {
	out := []coreCall{{kind: callRestart}}
	for n := -1; n <= 7; n++ {
		out = append(out, coreCall{kind: callFault, n: n}, coreCall{kind: callFinish, n: n, f: impl.Frame{Id: 5, Dlc: 1, Data: []uint8{6}}})
	}
	for _, n := range []int{-1, 0, 1, 2, '0', '1', math.MinInt, math.MaxInt} {
		out = append(out, coreCall{kind: callStep, n: n})
	}
	for how := 1; how <= 5; how++ {
		out = append(out, coreCall{kind: callFinish, n: how, f: impl.Frame{Id: 2048}})
	}
	return out
}

// expectCoreCall holds one call against the slow core.
func expectCoreCall(t *testing.T, c impl.Core, k coreCall) impl.Core {
	t.Helper()
	got, want := k.made(c), k.slowlyMade(c)
	if !sameCores(got, want) {
		t.Fatalf("%+v\nof %+v\nis %+v\nwant %+v", k, c, got, want)
	}
	return got
}

// bareCores are all valid ones without a sending box, as far as phase and marks go; the counters of errors are 0, or as off asks.
func bareCores(h impl.Host) []impl.Core {
	var out []impl.Core
	for marks := range 1 << 6 {
		flag := func(i int) bool { return marks>>i&1 == 1 }
		for phase := range 8 {
			for count := range 17 {
				for _, runs := range []int{0, 1, 126, 127, 128} {
					c := impl.Core{Phase: phase, Count: count, Level: marks & 1, Weak: flag(1), Over: flag(2), Owed: flag(3), Tx: flag(4), Asked: flag(5), Runs: runs, Host: h}
					if phase == impl.PhaseOff {
						c.Tec = 256
					}
					if isValidCore(c) {
						out = append(out, c)
					}
				}
			}
		}
	}
	return out
}

// countersOf are pairs of Tec and Rec at the edges of what they decide.
func countersOf() [][2]int {
	out := [][2]int{{0, 255}, {255, 255}, {127, 128}, {128, 127}, {127, 127}, {128, 128}, {120, 120}, {248, 248}}
	for _, n := range []int{0, 1, 7, 8, 119, 120, 121, 126, 127, 128, 129, 247, 248, 249, 254, 255} {
		out = append(out, [2]int{n, 0}, [2]int{0, n}, [2]int{n, 130})
	}
	return out
}

// sendingHost is h with its best box on the wire.
func sendingHost(h impl.Host) impl.Host {
	return impl.Take(h, impl.Best(h))
}

// core is a valid Core with a host by the dice; no phase and no counter is rare.
func (d *dice) core() impl.Core {
	for {
		c := impl.Core{Phase: d.roll(8), Count: d.roll(d.one(3, 16)), Weak: d.roll(2) == 0, Over: d.roll(3) == 0, Tx: d.roll(2) == 0, Rec: d.one(0, d.roll(256), 120+d.roll(16), 240+d.roll(16))}
		c.Tec = d.one(0, d.roll(256), 120+d.roll(16), 240+d.roll(16))
		if c.Phase == impl.PhaseOff {
			c.Tec, c.Asked = 256, d.roll(3) > 0
		}
		if c.Asked {
			c.Runs = d.one(0, 126, 127, d.roll(128))
		}
		if c.Weak && c.Count > 0 {
			c.Level = d.roll(2)
		}
		c.Owed = c.Weak && c.Tx && d.roll(2) == 0
		c.Host = d.host()
		if isValidCore(c) {
			return c
		}
	}
}
