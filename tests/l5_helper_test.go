package tests

import (
	"bytes"
	"slices"
	"strings"
	"testing"

	"loop.example/s01647/impl"
)

func samePackeds(a, b impl.Packed) bool {
	return a.N == b.N && slices.Equal(a.Words, b.Words)
}

func sameRefs(a, b impl.Ref) bool {
	return a.Heard == b.Heard && sameCores(a.Core, b.Core)
}

func sameOpts(a, b impl.Opt) bool {
	return a.Cursor == b.Cursor && samePackeds(a.Image, b.Image) && sameScans(a.Scan, b.Scan) && sameCores(a.Core, b.Core)
}

func copyOpt(o impl.Opt) impl.Opt {
	o.Core.Host = copyHost(o.Core.Host)
	o.Scan.F = copyFrame(o.Scan.F)
	o.Image.Words = slices.Clone(o.Image.Words)
	return o
}

func optRegions(o impl.Opt) []region {
	return append(hostRegions(o.Core.Host), regionOf(o.Scan.F.Data), regionOf(o.Image.Words))
}

// sentFrame is the frame being sent; it wants a box on the wire.
func sentFrame(c impl.Core) impl.Frame {
	return c.Host.Boxes[boxOnWire(c.Host)].F
}

// isValidRef lists what the document asks of a valid Ref, in its order.
func isValidRef(r impl.Ref) bool {
	switch {
	case !isValidCore(r.Core):
		return false
	case r.Core.Phase != impl.PhaseFrame:
		return r.Heard == ""
	case !r.Core.Tx:
		return r.Heard != "" && goesOn(impl.Judge(r.Heard).Code)
	}
	image := impl.Encode(sentFrame(r.Core))
	if len(r.Heard) >= len(image) {
		return false
	}
	for i := range r.Heard {
		want := image[i]
		if i == len(image)-9 {
			want = '0'
		}
		if r.Heard[i] != want {
			return false
		}
	}
	return true
}

// scanned is what ScanBit makes of bits, from the Scan that a frame begins with.
func scanned(bits string) impl.Scan {
	s := startScan()
	for _, letter := range bits {
		s, _ = impl.ScanBit(s, int(letter-'0'))
	}
	return s
}

// isValidOpt lists what the document asks of a valid Opt, in its order.
func isValidOpt(o impl.Opt) bool {
	if !isValidCore(o.Core) {
		return false
	}
	bare := samePackeds(o.Image, impl.Packed{}) && o.Cursor == 0
	switch {
	case o.Core.Phase != impl.PhaseFrame:
		return bare && sameScans(o.Scan, impl.Scan{})
	case !o.Core.Tx:
		return bare && isSound(o.Scan) && o.Scan.Field != impl.FieldSof
	}
	image := impl.Image(sentFrame(o.Core))
	return samePackeds(o.Image, image) && in(o.Cursor, 0, image.N-1) && sameScans(o.Scan, scanned(impl.Unpack(image)[:o.Cursor]))
}

// The controllers a second time, by the words of the document; they want a valid state.

func slowRefLevel(r impl.Ref) int {
	c := r.Core
	v := impl.Judge(r.Heard)
	switch {
	case c.Phase == impl.PhaseFrame && c.Tx:
		return int(impl.Encode(sentFrame(c))[len(r.Heard)] - '0')
	case c.Phase == impl.PhaseFrame && v.Next == impl.FieldAck && v.CrcOk:
		return 0
	case c.Phase == impl.PhaseFlag && !c.Weak:
		return 0
	}
	return 1
}

func slowRefDrive(r impl.Ref) (impl.Ref, int) {
	if !isValidRef(r) {
		return impl.Ref{}, 1
	}
	if best := slowBest(r.Core.Host); r.Core.Phase == impl.PhaseIdle && best >= 0 {
		r.Core.Host = slowTake(r.Core.Host, best)
		r.Core.Phase, r.Core.Tx, r.Heard = impl.PhaseFrame, true, ""
	}
	return r, slowRefLevel(r)
}

func slowRefStep(r impl.Ref, bit int) impl.Ref {
	if !isValidRef(r) || bit != 0 && bit != 1 {
		return impl.Ref{}
	}
	heard2 := r.Heard + string('0'+rune(bit))
	switch {
	case r.Core.Phase != impl.PhaseFrame:
		r.Core = slowStep(r.Core, bit)
		heard2 = "0"
	case r.Core.Tx:
		v := impl.Judge(r.Heard)
		r.Core = slowSent(r.Core, slowRefLevel(r), bit, v.Next, v.Due, len(heard2) == len(impl.Encode(sentFrame(r.Core))))
	default:
		f, code := impl.Decode(heard2)
		r.Core = slowHeard(r.Core, slowRefLevel(r), bit, code, f)
	}
	r.Heard = ""
	if r.Core.Phase == impl.PhaseFrame {
		r.Heard = heard2
	}
	return r
}

// slowSent is a bit in the frame of a sender.
func slowSent(c impl.Core, d, bit, next int, due, last bool) impl.Core {
	arbitration := isOneOf(next, impl.FieldIdA, impl.FieldRtr, impl.FieldIde, impl.FieldIdB, impl.FieldRtrX)
	if d == 1 && bit == 0 {
		if arbitration && due {
			return slowFault(c, impl.ErrArbStuff)
		}
		if arbitration {
			return slowFinish(c, impl.FinishLost, impl.Frame{})
		}
		if next == impl.FieldAck {
			return c
		}
		return slowFault(c, impl.ErrBit)
	}
	if d == 0 && bit == 1 {
		return slowFault(c, impl.ErrBit)
	}
	if next == impl.FieldAck {
		return slowFault(c, impl.ErrAck)
	}
	if last {
		return slowFinish(c, impl.FinishSent, impl.Frame{})
	}
	return c
}

// slowHeard is a bit in the frame of a hearer.
func slowHeard(c impl.Core, d, bit, code int, f impl.Frame) impl.Core {
	if d == 0 && bit == 1 {
		return slowFault(c, impl.ErrBit)
	}
	if code == impl.VerdictValid && !impl.ValidFrame(f) {
		code = impl.VerdictForm
	}
	kinds := map[int]int{impl.VerdictStuff: impl.ErrStuff, impl.VerdictForm: impl.ErrForm, impl.VerdictCrc: impl.ErrCrc}
	if kind, ok := kinds[code]; ok {
		return slowFault(c, kind)
	}
	ends := map[int]int{impl.VerdictValid: impl.FinishHeard, impl.VerdictWhole: impl.FinishQuiet, impl.VerdictOver: impl.FinishOver}
	if how, ok := ends[code]; ok {
		return slowFinish(c, how, f)
	}
	return c
}

func slowPackRef(r impl.Ref) impl.Opt {
	if !isValidRef(r) {
		return impl.Opt{}
	}
	o := impl.Opt{Core: r.Core}
	if r.Core.Phase == impl.PhaseFrame {
		o.Scan = scanned(r.Heard)
	}
	if r.Core.Phase == impl.PhaseFrame && r.Core.Tx {
		o.Image, o.Cursor = impl.Pack(impl.Encode(sentFrame(r.Core))), len(r.Heard)
	}
	return o
}

func slowOptLevel(o impl.Opt) int {
	c := o.Core
	switch {
	case c.Phase == impl.PhaseFrame && c.Tx:
		return int(impl.Unpack(o.Image)[o.Cursor] - '0')
	case c.Phase == impl.PhaseFrame && o.Scan.Field == impl.FieldAck && o.Scan.Acc == o.Scan.Crc:
		return 0
	case c.Phase == impl.PhaseFlag && !c.Weak:
		return 0
	}
	return 1
}

func slowOptDrive(o impl.Opt) (impl.Opt, int) {
	if !isValidOpt(o) {
		return impl.Opt{}, 1
	}
	if best := slowBest(o.Core.Host); o.Core.Phase == impl.PhaseIdle && best >= 0 {
		o.Core.Host = slowTake(o.Core.Host, best)
		o.Core.Phase, o.Core.Tx = impl.PhaseFrame, true
		o.Image, o.Cursor, o.Scan = impl.Image(sentFrame(o.Core)), 0, startScan()
	}
	return o, slowOptLevel(o)
}

func slowOptStep(o impl.Opt, bit int) impl.Opt {
	if !isValidOpt(o) || bit != 0 && bit != 1 {
		return impl.Opt{}
	}
	scan, code := impl.ScanBit(o.Scan, bit)
	c, d, next, due := o.Core, slowOptLevel(o), o.Scan.Field, o.Scan.Run == 5
	switch {
	case c.Phase != impl.PhaseFrame:
		c = slowStep(c, bit)
		scan = scanned("0")
	case c.Tx:
		c = slowSent(c, d, bit, next, due, o.Cursor == o.Image.N-1)
	default:
		c = slowHeard(c, d, bit, code, scan.F)
	}
	switch {
	case c.Phase != impl.PhaseFrame:
		return impl.Opt{Core: c}
	case !c.Tx:
		return impl.Opt{Core: c, Scan: scan}
	}
	return impl.Opt{Core: c, Scan: scan, Image: impl.Image(sentFrame(c)), Cursor: o.Cursor + 1}
}

// expectRef holds every call of a Ref against the slow one, and wants that it answers a valid one in new memory.
func expectRef(t *testing.T, r impl.Ref) {
	t.Helper()
	before := copyHost(r.Core.Host)
	got, level := impl.RefDrive(r)
	want, wantLevel := slowRefDrive(r)
	if level != wantLevel || !sameRefs(got, want) {
		t.Fatalf("RefDrive of %+v\nis %+v, %d\nwant %+v, %d", r, got, level, want, wantLevel)
	}
	answers := []impl.Ref{got}
	for bit := range 2 {
		got, want := impl.RefStep(r, bit), slowRefStep(r, bit)
		if !sameRefs(got, want) {
			t.Fatalf("RefStep of %d and %+v\nis %+v\nwant %+v", bit, r, got, want)
		}
		answers = append(answers, got)
	}
	packed, wantPacked := impl.PackRef(r), slowPackRef(r)
	if !sameOpts(packed, wantPacked) {
		t.Fatalf("PackRef of %+v\nis %+v\nwant %+v", r, packed, wantPacked)
	}
	valid := isValidRef(r)
	for _, a := range answers {
		if isValidRef(a) != valid {
			t.Fatalf("of %+v comes %+v", r, a)
		}
		expectApart(t, "the answer and the Ref", append(hostRegions(a.Core.Host), hostRegions(r.Core.Host)...)...)
	}
	expectApart(t, "PackRef and the Ref", append(optRegions(packed), hostRegions(r.Core.Host)...)...)
	if !sameHosts(before, r.Core.Host) {
		t.Fatalf("a call wrote into %+v", before)
	}
}

// expectOpt does the same for an Opt.
func expectOpt(t *testing.T, o impl.Opt) {
	t.Helper()
	before := copyOpt(o)
	got, level := impl.OptDrive(o)
	want, wantLevel := slowOptDrive(o)
	if level != wantLevel || !sameOpts(got, want) {
		t.Fatalf("OptDrive of %+v\nis %+v, %d\nwant %+v, %d", o, got, level, want, wantLevel)
	}
	answers := []impl.Opt{got}
	for bit := range 2 {
		got, want := impl.OptStep(o, bit), slowOptStep(o, bit)
		if !sameOpts(got, want) {
			t.Fatalf("OptStep of %d and %+v\nis %+v\nwant %+v", bit, o, got, want)
		}
		answers = append(answers, got)
	}
	valid := isValidOpt(o)
	for _, a := range answers {
		if isValidOpt(a) != valid {
			t.Fatalf("of %+v comes %+v", o, a)
		}
		expectApart(t, "the answer and the Opt", append(optRegions(a), optRegions(o)...)...)
	}
	if !sameOpts(before, o) {
		t.Fatalf("a call wrote into %+v", before)
	}
}

// expectP12 has the words of the promise.
func expectP12(t *testing.T, r impl.Ref) {
	t.Helper()
	o := impl.PackRef(r)
	driven, level := impl.RefDrive(r)
	quick, quickLevel := impl.OptDrive(o)
	if level != quickLevel || !sameOpts(impl.PackRef(driven), quick) {
		t.Fatalf("drives of %+v: %+v, %d\nand %+v, %d", r, driven, level, quick, quickLevel)
	}
	for bit := range 2 {
		slow, quick := impl.RefStep(r, bit), impl.OptStep(o, bit)
		if !sameOpts(impl.PackRef(slow), quick) {
			t.Fatalf("steps with %d of %+v: %+v\nand %+v", bit, r, slow, quick)
		}
	}
}

// asHeardBySender is the image with its answer: what the sender hears if it gets through.
func asHeardBySender(f impl.Frame) string {
	return withAck(impl.Encode(f), "0")
}

// heard is the beginning of what a hearer may have taken of a frame: one that is well, one with other fixed bits or one with a wrong sum.
func (d *dice) heard() string {
	text := ""
	switch d.roll(4) {
	case 0:
		text = withAck(impl.Encode(d.anyFrame()), d.text(1))
	case 1:
		text = heardOf(d.body(), d.text(1))
	case 2:
		text = impl.Stuff(d.body()+d.text(15)) + "1" + d.text(1) + "1"
	default:
		text = "0" + d.runs(40)
	}
	for !goesOn(impl.Judge(text).Code) {
		text = text[:len(text)-1]
	}
	return text[:len(text)-d.one(0, 0, d.roll(len(text)))]
}

// ref is a valid Ref; every second one is in a frame.
func (d *dice) ref() impl.Ref {
	wanted := d.roll(2) == 0
	for {
		r := impl.Ref{Core: d.core()}
		inFrame := r.Core.Phase == impl.PhaseFrame
		switch {
		case inFrame != wanted:
			continue
		case inFrame && r.Core.Tx:
			all := asHeardBySender(sentFrame(r.Core))
			r.Heard = all[:d.one(0, len(all)-1, len(all)-8, len(all)-9, len(all)-10, d.roll(len(all)), d.roll(40))]
		case inFrame:
			r.Heard = d.heard()
		}
		return r
	}
}

// opt is a valid Opt; if it hears, its Scan is mostly one that no frame leads to.
func (d *dice) opt() impl.Opt {
	o := impl.PackRef(d.ref())
	if o.Core.Phase != impl.PhaseFrame || o.Core.Tx || d.roll(5) == 0 {
		return o
	}
	for {
		if o.Scan = d.scan(); o.Scan.Field != impl.FieldSof {
			return o
		}
	}
}

// atRest is a Ref in PhaseIdle whose host has room enough for what a test by hand does, with frames to send under the tags 0, 1 and so on.
func atRest(t *testing.T, frames ...impl.Frame) impl.Ref {
	t.Helper()
	h := hostWith(t, 4, 2, impl.PolicyOld, 16)
	for tag, f := range frames {
		h = impl.Submit(h, tag, f)
	}
	return impl.Ref{Core: impl.Core{Host: h}}
}

// senderAt is a Ref that has sent the first bits of a frame, under tag 0.
func senderAt(t *testing.T, f impl.Frame, bits int) impl.Ref {
	t.Helper()
	r, _ := impl.RefDrive(atRest(t, f))
	r.Heard = asHeardBySender(f)[:bits]
	return r
}

// hearerOf is a Ref that has heard some bits and has nothing to send.
func hearerOf(t *testing.T, heard string) impl.Ref {
	t.Helper()
	r := atRest(t)
	r.Core.Phase, r.Heard = impl.PhaseFrame, heard
	return r
}

// pair is the same controller in both kinds, so that each test by hand asks both.
type pair struct {
	ref impl.Ref
	opt impl.Opt
}

func pairOf(r impl.Ref) pair {
	return pair{r, impl.PackRef(r)}
}

// drive fails if the two drive apart.
func (p *pair) drive(t *testing.T) int {
	t.Helper()
	r, level := impl.RefDrive(p.ref)
	o, quick := impl.OptDrive(p.opt)
	if level != quick {
		t.Fatalf("%+v drives %d\n%+v drives %d", p.ref, level, p.opt, quick)
	}
	p.ref, p.opt = r, o
	return level
}

// step fails if the two part.
func (p *pair) step(t *testing.T, bit int) {
	t.Helper()
	p.ref, p.opt = impl.RefStep(p.ref, bit), impl.OptStep(p.opt, bit)
	if o := impl.PackRef(p.ref); !sameOpts(o, p.opt) {
		t.Fatalf("behind %d: %+v\nbut %+v", bit, o, p.opt)
	}
}

// change does the same to the core of both.
func (p *pair) change(act func(*impl.Core)) {
	act(&p.ref.Core)
	p.opt.Core = p.ref.Core
}

// take feeds levels; what the pair drives meanwhile is answered.
func (p *pair) take(t *testing.T, levels string) string {
	t.Helper()
	out := ""
	for _, letter := range levels {
		out += string('0' + rune(p.drive(t)))
		p.step(t, int(letter-'0'))
	}
	return out
}

// drained takes the events out of both.
func (p *pair) drained(t *testing.T) []impl.Event {
	t.Helper()
	h, events := impl.Drain(p.ref.Core.Host)
	_, quick := impl.Drain(p.opt.Core.Host)
	if !slices.EqualFunc(events, quick, sameEvents) {
		t.Fatalf("events %+v\nbut %+v", events, quick)
	}
	p.change(func(c *impl.Core) { c.Host = h })
	return events
}

// kindsOf are the kinds and the A of events, as expectCore tells them.
func kindsOf(events []impl.Event) [][2]int {
	var out [][2]int
	for _, e := range events {
		out = append(out, [2]int{e.Kind, e.A})
	}
	return out
}

// expectPair names what is not the host of the core, what was heard of a frame, and the events.
func expectPair(t *testing.T, what string, p pair, want impl.Core, heard string, events ...[2]int) {
	t.Helper()
	expectCore(t, what, p.ref.Core, want, events...)
	expectCore(t, what+", quick", p.opt.Core, want, events...)
	if p.ref.Heard != heard {
		t.Errorf("%s: heard %q, want %q", what, p.ref.Heard, heard)
	}
	inFrame := want.Phase == impl.PhaseFrame
	if inFrame != (p.opt.Scan.Field != impl.FieldNone) || (inFrame && want.Tx) != (p.opt.Image.N > 0) {
		t.Errorf("%s: scan %+v, image %+v", what, p.opt.Scan, p.opt.Image)
	}
}

// behindStep is the pair of r once a level has been sampled.
func behindStep(t *testing.T, r impl.Ref, bit int) pair {
	t.Helper()
	p := pairOf(r)
	p.step(t, bit)
	return p
}

// fewFrames are frames of both kinds, with and without data, with many stuff bits and with few.
func fewFrames() []impl.Frame {
	return []impl.Frame{
		{},
		{Id: 0x7ff, Dlc: 1, Data: []uint8{0xff}},
		{Id: 0x555, Dlc: 8, Data: bytes.Repeat([]uint8{0x0f}, 8)},
		{Id: 0x123, Rtr: true, Dlc: 8},
		{Ext: true, Id: 0x1fffffff},
		{Ext: true, Id: 0x00000001, Dlc: 15, Data: make([]uint8, 8)},
		{Ext: true, Id: 0x15555555, Rtr: true, Dlc: 3},
		{Ext: true, Id: 0x0f83e0f8, Dlc: 2, Data: []uint8{0x12, 0x34}},
	}
}

// isStuffBit tells of a bit in an image, from the plain bits around it.
func isStuffBit(image string, at int) bool {
	if at >= len(strings.TrimSuffix(image, "1111111111")) {
		return false
	}
	ahead, _ := impl.Destuff(image[:at])
	behind, _ := impl.Destuff(image[:at+1])
	return ahead == behind
}
