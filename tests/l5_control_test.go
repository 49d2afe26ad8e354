package tests

import (
	"strings"
	"testing"

	"loop.example/s01647/impl"
)

func TestRefsByTheDice(t *testing.T) {
	d := dice(111)
	phases := map[[2]int]int{}
	for range 3000 {
		r := d.ref()
		if !isValidRef(r) {
			t.Fatalf("the dice made %+v", r)
		}
		expectRef(t, r)
		phases[[2]int{r.Core.Phase, len(r.Heard)}]++
	}
	for phase := range 8 {
		if phase != impl.PhaseFrame && phases[[2]int{phase, 0}] == 0 {
			t.Errorf("no Ref in phase %d", phase)
		}
	}
}

func TestOptsByTheDice(t *testing.T) {
	d := dice(112)
	invalid := 0
	for range 4000 {
		o := d.opt()
		if !isValidOpt(o) {
			t.Fatalf("the dice made %+v", o)
		}
		expectOpt(t, o)
		if o.Scan.Field == impl.FieldEof && o.Scan.Left == 2 && !impl.ValidFrame(o.Scan.F) {
			invalid++
		}
	}
	if invalid < 10 {
		t.Errorf("only %d ended with a frame that is not valid", invalid)
	}
}

// A sound Scan that no frame leads to may end as a frame that is not valid: that is a form error.
func TestAFrameThatNoneCouldHaveSent(t *testing.T) {
	for _, f := range wrongFrames() {
		scan := impl.Scan{Field: impl.FieldEof, Left: 2, F: f}
		o := impl.Opt{Core: hearerOf(t, "0").Core, Scan: scan}
		got := impl.OptStep(o, 1)
		if !isSound(scan) {
			if !sameOpts(got, impl.Opt{}) {
				t.Errorf("unsound %+v: %+v", scan, got)
			}
			continue
		}
		expectCore(t, "a frame that is not valid", got.Core, impl.Core{Phase: impl.PhaseFlag, Rec: 1}, [2]int{impl.EvError, impl.ErrForm})
		if !sameOpts(got, impl.Opt{Core: got.Core}) {
			t.Errorf("something is left: %+v", got)
		}
	}
	good := impl.Opt{Core: hearerOf(t, "0").Core, Scan: impl.Scan{Field: impl.FieldEof, Left: 2, Crc: 5, Acc: 6, F: impl.Frame{Id: 9, Dlc: 1, Data: []uint8{7}}}}
	got := impl.OptStep(good, 1)
	expectCore(t, "a valid one", got.Core, impl.Core{Phase: impl.PhaseFrame}, [2]int{impl.EvReceived, 0})
	if got.Scan.Left != 1 || !sameFrames(got.Core.Host.Fifo[0], good.Scan.F) {
		t.Errorf("behind it: %+v", got)
	}
}

// onBus runs controllers on one wire and answers its levels.
func onBus(t *testing.T, ticks int, nodes ...*pair) string {
	t.Helper()
	bus := ""
	for range ticks {
		level := 1
		for _, p := range nodes {
			level = min(level, p.drive(t))
		}
		for _, p := range nodes {
			p.step(t, level)
		}
		bus += string('0' + rune(level))
	}
	return bus
}

// The counters that put a controller into its state, and what a frame sent or heard leaves of them.
type standing struct {
	name                 string
	tec, rec             int
	sentTec, heardRec    int
	sentState, heardTold [][2]int
}

func standings() []standing {
	active := [][2]int{{impl.EvState, impl.StateActive}}
	return []standing{
		{"active", 0, 0, 0, 0, nil, nil},
		{"active with counts", 127, 127, 126, 126, nil, nil},
		{"passive by sending", 200, 3, 199, 2, nil, nil},
		{"passive by sending, just so", 128, 0, 127, 0, active, nil},
		{"passive by hearing", 5, 255, 4, 127, nil, active},
		{"passive by both", 128, 128, 127, 127, nil, nil},
	}
}

func (s standing) put(p *pair) {
	p.change(func(c *impl.Core) { c.Tec, c.Rec = s.tec, s.rec })
}

// A sender and a hearer through a whole frame, each in each error state that is on the bus.
func TestWholeFrames(t *testing.T) {
	for _, f := range fewFrames() {
		want := asHeardBySender(f)
		for _, s := range standings() {
			sender, hearer := pairOf(atRest(t, f)), pairOf(atRest(t))
			s.put(&sender)
			s.put(&hearer)
			if bus := onBus(t, len(want)-2, &sender, &hearer); bus != want[:len(bus)] {
				t.Fatalf("%s, %+v: bus %q, want %q", s.name, f, bus, want)
			}
			ahead := impl.Core{Phase: impl.PhaseFrame, Tec: s.tec, Rec: s.rec}
			expectPair(t, s.name+", ahead of the sixth bit", hearer, ahead, want[:len(want)-2])
			onBus(t, 1, &sender, &hearer)
			heard := impl.Core{Phase: impl.PhaseFrame, Tec: s.tec, Rec: s.heardRec}
			expectPair(t, s.name+", at the sixth bit", hearer, heard, want[:len(want)-1], append([][2]int{{impl.EvReceived, 0}}, s.heardTold...)...)
			ahead.Tx = true
			expectPair(t, s.name+", sender at the sixth bit", sender, ahead, want[:len(want)-1])
			onBus(t, 1, &sender, &hearer)
			heard.Phase = impl.PhaseGap
			expectPair(t, s.name+", at the seventh bit", hearer, heard, "", append([][2]int{{impl.EvReceived, 0}}, s.heardTold...)...)
			sent := impl.Core{Phase: impl.PhaseGap, Tx: true, Tec: s.sentTec, Rec: s.rec}
			expectPair(t, s.name+", sender at the seventh bit", sender, sent, "", append([][2]int{{impl.EvSent, 0}}, s.sentState...)...)
			if got := hearer.ref.Core.Host.Fifo; len(got) != 1 || !sameFrames(got[0], f) || !sameFrames(sender.ref.Core.Host.Queue[0].F, f) {
				t.Errorf("%s: %+v was heard as %+v", s.name, f, got)
			}
		}
	}
}

// A controller that is off drives nothing and answers nobody; with it alone a sender meets no answer.
func TestWithAControllerOffTheBus(t *testing.T) {
	for _, f := range fewFrames() {
		image := impl.Encode(f)
		sender, off := pairOf(atRest(t, f)), pairOf(atRest(t, f))
		off.change(func(c *impl.Core) { c.Phase, c.Tec, c.Rec = impl.PhaseOff, 256, 9 })
		if bus := onBus(t, len(image)-8, &sender, &off); bus != image[:len(bus)] {
			t.Fatalf("bus %q, want %q", bus, image)
		}
		expectPair(t, "no answer", sender, impl.Core{Phase: impl.PhaseFlag, Tx: true, Tec: 8}, "", [2]int{impl.EvError, impl.ErrAck})
		onBus(t, 6, &sender, &off)
		expectPair(t, "off", off, impl.Core{Phase: impl.PhaseOff, Tec: 256, Rec: 9}, "")
	}
}

// What a sender makes of either level at every bit of its image, told from the bit's field and from whether it is a stuff bit.
func TestEveryBitOfASender(t *testing.T) {
	met := map[int]int{}
	for _, f := range fewFrames() {
		image := impl.Encode(f)
		for i := range image {
			plain, _ := impl.Destuff(strings.TrimSuffix(image, "1111111111")[:min(i, len(image)-10)])
			field := fieldBehind(plain + image[min(i, len(image)-10):i])
			stuff := isStuffBit(image, i)
			arbitration := in(field, impl.FieldIdA, impl.FieldRtrX)
			kind := impl.ErrBit
			switch {
			case arbitration && stuff && image[i] == '1':
				kind = impl.ErrArbStuff
			case arbitration && image[i] == '1', field == impl.FieldAck:
				kind = 0
			}
			met[kind]++
			expectTurned(t, f, i, kind, field)
			expectAsDriven(t, f, i, field)
		}
	}
	if met[0] == 0 || met[impl.ErrArbStuff] == 0 || met[impl.ErrBit] == 0 {
		t.Errorf("not all were met: %v", met)
	}
}

// expectTurned samples the level that the sender does not drive; kind 0 is no error.
func expectTurned(t *testing.T, f impl.Frame, i, kind, field int) {
	t.Helper()
	all := asHeardBySender(f)
	sampled := turned(impl.Encode(f), i)[i : i+1]
	p := behindStep(t, senderAt(t, f, i), valueOf(sampled))
	box := p.ref.Core.Host.Boxes[0].State
	switch {
	case kind == impl.ErrArbStuff:
		expectPair(t, "a stuff bit overridden", p, impl.Core{Phase: impl.PhaseFlag, Tx: true}, "", [2]int{impl.EvError, kind})
	case kind == impl.ErrBit:
		expectPair(t, "turned", p, impl.Core{Phase: impl.PhaseFlag, Tx: true, Tec: 8}, "", [2]int{impl.EvError, kind})
	case field == impl.FieldAck:
		expectPair(t, "answered", p, impl.Core{Phase: impl.PhaseFrame, Tx: true}, all[:i+1])
	default:
		expectPair(t, "lost", p, impl.Core{Phase: impl.PhaseFrame}, all[:i]+"0")
	}
	if want := map[bool]int{true: impl.BoxSending, false: impl.BoxWaiting}[field == impl.FieldAck]; box != want {
		t.Errorf("bit %d of %+v: box in state %d, want %d", i, f, box, want)
	}
}

// expectAsDriven samples the level that the sender drives.
func expectAsDriven(t *testing.T, f impl.Frame, i, field int) {
	t.Helper()
	image, all := impl.Encode(f), asHeardBySender(f)
	r := senderAt(t, f, i)
	p := pairOf(r)
	level := p.drive(t)
	if level != int(image[i]-'0') {
		t.Fatalf("bit %d of %+v: drives %d", i, f, level)
	}
	p.step(t, level)
	switch {
	case field == impl.FieldAck:
		expectPair(t, "no answer", p, impl.Core{Phase: impl.PhaseFlag, Tx: true, Tec: 8}, "", [2]int{impl.EvError, impl.ErrAck})
	case i == len(image)-1:
		expectPair(t, "the last bit", p, impl.Core{Phase: impl.PhaseGap, Tx: true}, "", [2]int{impl.EvSent, 0})
	default:
		expectPair(t, "as driven", p, impl.Core{Phase: impl.PhaseFrame, Tx: true}, all[:i+1])
	}
}

// What a hearer makes of a turned level at every bit behind the first.
func TestEveryTurnedBitOfAHearer(t *testing.T) {
	for _, f := range fewFrames() {
		all := asHeardBySender(f)
		end := len(all) - 10
		for i := 1; i < len(all); i++ {
			p := pairOf(hearerOf(t, all[:i]))
			if level := p.drive(t); level != map[bool]int{true: 0, false: 1}[i == end+1] {
				t.Fatalf("a hearer drives %d at bit %d of %q", level, i, all)
			}
			p.step(t, 1-int(all[i]-'0'))
			kind := 0
			switch {
			case isStuffBit(impl.Encode(f), i):
				kind = impl.ErrStuff
			case i == end+1:
				kind = impl.ErrBit
			case i >= end && i < len(all)-1:
				kind = impl.ErrForm
			}
			switch {
			case kind > 0:
				expectPair(t, "turned", p, impl.Core{Phase: impl.PhaseFlag, Rec: 1}, "", [2]int{impl.EvError, kind})
			case i == len(all)-1:
				expectPair(t, "the last bit turned", p, impl.Core{Phase: impl.PhaseFlag, Over: true}, "", [2]int{impl.EvOverload, 0})
			default:
				expectPair(t, "a plain bit turned", p, impl.Core{Phase: impl.PhaseFrame}, turned(all[:i+1], i))
			}
		}
	}
}

// The bit of FieldAck for a hearer, with a sum that holds and with one that doesn't, and what comes behind.
func TestTheAnswerOfAHearer(t *testing.T) {
	for _, f := range fewFrames() {
		all := asHeardBySender(f)
		at := len(all) - 9
		good := hearerOf(t, all[:at])
		expectPair(t, "answered", behindStep(t, good, 0), impl.Core{Phase: impl.PhaseFrame}, all[:at+1])
		expectPair(t, "its answer is not on the bus", behindStep(t, good, 1), impl.Core{Phase: impl.PhaseFlag, Rec: 1}, "", [2]int{impl.EvError, impl.ErrBit})
		body := impl.Body(f)
		wrong := impl.Stuff(body+numberText(impl.Crc15(body)^1, 15)) + "1"
		for _, ack := range []string{"0", "1"} {
			p := pairOf(hearerOf(t, wrong))
			if p.take(t, ack) != "1" {
				t.Errorf("a wrong sum is answered")
			}
			expectPair(t, "not answered", p, impl.Core{Phase: impl.PhaseFrame}, wrong+ack)
			expectPair(t, "a wrong sum", behindStep(t, p.ref, 1), impl.Core{Phase: impl.PhaseFlag, Rec: 1}, "", [2]int{impl.EvError, impl.ErrCrc})
			expectPair(t, "a wrong sum and form", behindStep(t, p.ref, 0), impl.Core{Phase: impl.PhaseFlag, Rec: 1}, "", [2]int{impl.EvError, impl.ErrForm})
		}
	}
}

// A sender that meets no answer, in each state: a passive one owes its eight.
func TestNoAnswerInEachState(t *testing.T) {
	f := impl.Frame{Id: 5}
	at := len(impl.Encode(f)) - 9
	for _, c := range []struct {
		tec, rec int
		want     impl.Core
		events   [][2]int
	}{
		{0, 0, impl.Core{Tec: 8}, nil},
		{119, 127, impl.Core{Tec: 127, Rec: 127}, nil},
		{120, 0, impl.Core{Tec: 128}, [][2]int{{impl.EvState, impl.StatePassive}}},
		{128, 0, impl.Core{Weak: true, Owed: true, Tec: 128}, nil},
		{0, 128, impl.Core{Weak: true, Owed: true, Rec: 128}, nil},
		{255, 255, impl.Core{Weak: true, Owed: true, Tec: 255, Rec: 255}, nil},
	} {
		r := senderAt(t, f, at)
		r.Core.Tec, r.Core.Rec = c.tec, c.rec
		c.want.Phase, c.want.Tx = impl.PhaseFlag, true
		expectPair(t, "no answer", behindStep(t, r, 1), c.want, "", append([][2]int{{impl.EvError, impl.ErrAck}}, c.events...)...)
	}
}

// The last two bits of the frame, for both, with either level.
func TestTheLastTwoBits(t *testing.T) {
	for _, f := range fewFrames() {
		all := asHeardBySender(f)
		six, seven := all[:len(all)-2], all[:len(all)-1]
		received, overload := [2]int{impl.EvReceived, 0}, [2]int{impl.EvOverload, 0}
		expectPair(t, "hearer, sixth 1", behindStep(t, hearerOf(t, six), 1), impl.Core{Phase: impl.PhaseFrame}, seven, received)
		expectPair(t, "hearer, sixth 0", behindStep(t, hearerOf(t, six), 0), impl.Core{Phase: impl.PhaseFlag, Rec: 1}, "", [2]int{impl.EvError, impl.ErrForm})
		expectPair(t, "hearer, seventh 1", behindStep(t, hearerOf(t, seven), 1), impl.Core{Phase: impl.PhaseGap}, "")
		expectPair(t, "hearer, seventh 0", behindStep(t, hearerOf(t, seven), 0), impl.Core{Phase: impl.PhaseFlag, Over: true}, "", overload)
		expectPair(t, "sender, sixth 1", behindStep(t, senderAt(t, f, len(six)), 1), impl.Core{Phase: impl.PhaseFrame, Tx: true}, seven)
		expectPair(t, "sender, seventh 1", behindStep(t, senderAt(t, f, len(seven)), 1), impl.Core{Phase: impl.PhaseGap, Tx: true}, "", [2]int{impl.EvSent, 0})
		for _, bits := range []int{len(six), len(seven)} {
			expectPair(t, "sender, 0", behindStep(t, senderAt(t, f, bits), 0), impl.Core{Phase: impl.PhaseFlag, Tx: true, Tec: 8}, "", [2]int{impl.EvError, impl.ErrBit})
		}
	}
}

// An overload behind the frame: in the gap's first two bits for both, with the flag, the wait and the delimiter that follow.
func TestOverloadBehindTheFrame(t *testing.T) {
	for _, tx := range []bool{false, true} {
		for _, levels := range []string{"0", "10"} {
			r := atRest(t)
			r.Core.Phase, r.Core.Tx = impl.PhaseGap, tx
			p := pairOf(r)
			p.take(t, levels)
			overload := [2]int{impl.EvOverload, 0}
			expectPair(t, "overload", p, impl.Core{Phase: impl.PhaseFlag, Over: true, Tx: tx}, "", overload)
			if out := p.take(t, "000000"+"1"+"1111111"); out != "000000"+"11111111" {
				t.Errorf("an overload drives %q", out)
			}
			expectPair(t, "behind it", p, impl.Core{Phase: impl.PhaseGap, Tx: tx}, "", overload)
		}
	}
}

// A flag in each state drives its level until six are through.
func TestLevelsOfAFlag(t *testing.T) {
	for _, weak := range []bool{false, true} {
		r := atRest(t)
		r.Core.Phase, r.Core.Weak, r.Core.Rec = impl.PhaseFlag, weak, 128
		p := pairOf(r)
		want := "000000" + "1"
		if weak {
			want = "1111111"
		}
		if out := p.take(t, want); out != want {
			t.Errorf("weak %v: drives %q", weak, out)
		}
		expectPair(t, "behind the flag", p, impl.Core{Phase: impl.PhaseDelim, Count: 1, Rec: 128}, "")
	}
}

// The gap's third bit as 0: who joins as a sender has sent his first bit with it.
func TestJoiningAtTheGapsThirdBit(t *testing.T) {
	f, g := impl.Frame{Id: 0x300, Dlc: 1, Data: []uint8{9}}, impl.Frame{Ext: true, Id: 77}
	for _, c := range []struct {
		tx       bool
		tec, rec int
		joins    bool
	}{
		{false, 0, 0, true}, {false, 128, 0, true}, {false, 0, 200, true},
		{true, 127, 127, true}, {true, 128, 0, false}, {true, 0, 128, false},
	} {
		for _, waiting := range [][]impl.Frame{nil, {f}, {f, g}} {
			r := atRest(t, waiting...)
			r.Core.Phase, r.Core.Count, r.Core.Tx, r.Core.Tec, r.Core.Rec = impl.PhaseGap, 2, c.tx, c.tec, c.rec
			joins := c.joins && len(waiting) > 0
			p := behindStep(t, r, 0)
			expectPair(t, "the third bit", p, impl.Core{Phase: impl.PhaseFrame, Tx: joins, Tec: c.tec, Rec: c.rec}, "0")
			if !sameScans(p.opt.Scan, impl.Scan{Field: impl.FieldIdA, Left: 11, Run: 1}) {
				t.Errorf("scan %+v", p.opt.Scan)
			}
			if !joins {
				continue
			}
			best := waiting[len(waiting)-1]
			if p.opt.Cursor != 1 || !samePackeds(p.opt.Image, impl.Image(best)) || !sameFrames(sentFrame(p.ref.Core), best) {
				t.Errorf("joined with %+v", p.opt)
			}
			all := asHeardBySender(best)
			if out := p.take(t, all[1:]); out != impl.Encode(best)[1:] {
				t.Errorf("then drives %q", out)
			}
			if got := p.drained(t); got[0].Kind != impl.EvSent || !sameFrames(got[0].F, best) {
				t.Errorf("then tells %+v", got)
			}
		}
	}
}

// Behind the gap a passive sender suspends and joins as a hearer what others begin meanwhile.
func TestSuspensionOfAController(t *testing.T) {
	f := impl.Frame{Id: 0x300}
	r := atRest(t, f)
	r.Core.Phase, r.Core.Tx, r.Core.Tec = impl.PhaseGap, true, 128
	p := pairOf(r)
	if out := p.take(t, "111"+"11111111"); out != "11111111111" {
		t.Errorf("a suspended sender drives %q", out)
	}
	expectPair(t, "suspended", p, impl.Core{Tec: 128}, "")
	if p.drive(t) != 0 || !p.ref.Core.Tx {
		t.Errorf("then it does not send")
	}
	p = pairOf(r)
	p.take(t, "1111110")
	expectPair(t, "another one begins", p, impl.Core{Phase: impl.PhaseFrame, Tec: 128}, "0")
}

// A step begins no sending: in PhaseIdle a 0 makes a hearer of whoever has something to send.
func TestAStepBeginsNoSending(t *testing.T) {
	r := atRest(t, impl.Frame{Id: 3})
	expectPair(t, "1", behindStep(t, r, 1), impl.Core{}, "")
	expectPair(t, "0", behindStep(t, r, 0), impl.Core{Phase: impl.PhaseFrame}, "0")
	p := pairOf(r)
	if p.drive(t) != 0 {
		t.Fatalf("the first bit of a frame")
	}
	expectPair(t, "driven", p, impl.Core{Phase: impl.PhaseFrame, Tx: true}, "")
	if !sameScans(p.opt.Scan, startScan()) || p.opt.Cursor != 0 || !samePackeds(p.opt.Image, impl.Image(impl.Frame{Id: 3})) {
		t.Errorf("driven: %+v", p.opt)
	}
	again := p
	if again.drive(t) != 0 || !sameRefs(again.ref, p.ref) || !sameOpts(again.opt, p.opt) {
		t.Errorf("a second drive changes %+v", again)
	}
}

// At Tec 248 every bit error of a sender puts it off, wherever it is in the frame; a doomed box is given up on the way.
func TestGoingOffInTheMiddleOfAFrame(t *testing.T) {
	for _, f := range fewFrames() {
		image := impl.Encode(f)
		for i := range image {
			r := senderAt(t, f, i)
			r.Core.Tec, r.Core.Rec = 248, 31
			r.Core.Host = impl.Abort(r.Core.Host, 0)
			p := behindStep(t, r, 1-int(image[i]-'0'))
			if p.ref.Core.Phase == impl.PhaseFrame || p.ref.Core.Tec == 248 {
				continue
			}
			expectPair(t, "off", p, impl.Core{Phase: impl.PhaseOff, Tec: 256, Rec: 31}, "", [2]int{impl.EvError, impl.ErrBit}, [2]int{impl.EvAborted, 0}, [2]int{impl.EvState, impl.StateOff})
		}
	}
	r := senderAt(t, impl.Frame{}, 0)
	r.Core.Tec = 248
	expectPair(t, "at its first bit", behindStep(t, r, 1), impl.Core{Phase: impl.PhaseOff, Tec: 256}, "", [2]int{impl.EvError, impl.ErrBit}, [2]int{impl.EvState, impl.StateOff})
}

// Two senders: the one with the lesser identifier goes on, the other hears it out and sends behind it.
func TestTwoSendersAtOnce(t *testing.T) {
	frames := fewFrames()
	for i, f := range frames {
		for j, g := range frames {
			if i == j {
				continue
			}
			first, second := f, g
			if impl.Arb(g) < impl.Arb(f) {
				first, second = g, f
			}
			a, b := pairOf(atRest(t, f)), pairOf(atRest(t, g))
			want := asHeardBySender(first) + "111" + asHeardBySender(second)
			if bus := onBus(t, len(want), &a, &b); bus != want {
				t.Fatalf("%+v against %+v: bus %q, want %q", f, g, bus, want)
			}
			for _, p := range []*pair{&a, &b} {
				kinds := map[int]int{}
				for _, e := range p.drained(t) {
					kinds[e.Kind]++
				}
				if kinds[impl.EvSent] != 1 || kinds[impl.EvReceived] != 1 || len(kinds) != 2 {
					t.Errorf("%+v against %+v: events %v", f, g, kinds)
				}
			}
		}
	}
}
