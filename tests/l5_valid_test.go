package tests

import (
	"math"
	"slices"
	"strings"
	"testing"

	"loop.example/s01647/impl"
)

// someRefs are valid ones in every phase: senders and hearers at the start, in the middle and at the end of a frame among them.
func someRefs(t *testing.T) []impl.Ref {
	t.Helper()
	var out []impl.Ref
	for _, f := range []impl.Frame{{}, {Ext: true, Id: 0x1fffffff, Dlc: 1, Data: []uint8{0xf0}}} {
		all := asHeardBySender(f)
		for _, bits := range []int{0, 1, 6, 20, len(all) - 10, len(all) - 9, len(all) - 8, len(all) - 1} {
			sender := senderAt(t, f, bits)
			out = append(out, sender)
			sender.Core.Host = impl.Abort(sender.Core.Host, 0)
			out = append(out, sender)
			if bits > 0 {
				out = append(out, hearerOf(t, all[:bits]), hearerOf(t, withAck(all, "1")[:bits]))
			}
		}
	}
	h := atRest(t, impl.Frame{Id: 1}, impl.Frame{Id: 2}).Core.Host
	last := bare{}
	for _, c := range bareCores(h) {
		b := bareCore(c)
		if c.Phase != impl.PhaseFrame && (b.phase != last.phase || b.tx != last.tx || b.weak != last.weak || b.restart != last.restart) {
			out = append(out, impl.Ref{Core: c})
		}
		last = b
	}
	return out
}

// spoiledHeard are other texts for what was heard; few of them fit.
func spoiledHeard(r impl.Ref) []string {
	out := []string{"", "0", "1", "00", "01", r.Heard + "0", r.Heard + "1", r.Heard + "2", r.Heard + "\x00", "2" + r.Heard, strings.Repeat("0", 6), strings.Repeat("01", 2000), strings.Repeat("01", 2001), strings.Repeat("0", 1<<20)}
	out = append(out, wrongTexts()...)
	for i := range r.Heard {
		out = append(out, turned(r.Heard, i), r.Heard[:i], r.Heard[:i]+"é"+r.Heard[i+1:])
	}
	for _, f := range []impl.Frame{{}, {Id: 1}, {Ext: true, Id: 0x1fffffff, Dlc: 1, Data: []uint8{0xf0}}} {
		all := asHeardBySender(f)
		for _, text := range []string{all, impl.Encode(f)} {
			for bits := len(text) - 10; bits <= len(text); bits++ {
				out = append(out, text[:bits])
			}
			out = append(out, text+"1", text+"0")
		}
	}
	return out
}

func TestEachThingThatMakesARefWrong(t *testing.T) {
	wrong, right := 0, 0
	look := func(r impl.Ref) {
		expectRef(t, r)
		if isValidRef(r) {
			right++
		} else {
			wrong++
		}
	}
	for _, r := range someRefs(t) {
		look(r)
		for _, heard := range spoiledHeard(r) {
			look(impl.Ref{Core: r.Core, Heard: heard})
		}
		for _, c := range spoiledCores(r.Core) {
			look(impl.Ref{Core: c, Heard: r.Heard})
		}
	}
	if wrong < 5000 || right < 500 {
		t.Errorf("%d were wrong, %d right", wrong, right)
	}
	expectRef(t, impl.Ref{})
	expectRef(t, impl.Ref{Heard: "0"})
}

// spoiledImages are other pictures of what is sent, each a single thing away.
func spoiledImages(p impl.Packed) []impl.Packed {
	out := []impl.Packed{{}, {Words: []uint64{}}, {Words: []uint64{0}}, {N: 1, Words: []uint64{0}}, {N: -1}, {N: math.MinInt}, impl.Image(impl.Frame{}), impl.Image(impl.Frame{Id: 1})}
	for _, n := range []int{p.N - 1, p.N + 1, p.N + 64, 0, math.MaxInt} {
		out = append(out, impl.Packed{N: n, Words: slices.Clone(p.Words)})
	}
	out = append(out, impl.Packed{N: p.N, Words: append(slices.Clone(p.Words), 0)})
	for i := range p.Words {
		for _, bit := range []int{0, 30, 63} {
			words := slices.Clone(p.Words)
			words[i] ^= 1 << bit
			out = append(out, impl.Packed{N: p.N, Words: words})
		}
		out = append(out, impl.Packed{N: p.N, Words: p.Words[:i:i]})
	}
	return out
}

func TestEachThingThatMakesAnOptWrong(t *testing.T) {
	wrong, right := 0, 0
	look := func(o impl.Opt) {
		expectOpt(t, o)
		if isValidOpt(o) {
			right++
		} else {
			wrong++
		}
	}
	for _, r := range someRefs(t) {
		o := impl.PackRef(r)
		look(o)
		for _, cursor := range []int{math.MinInt, -1, 0, 1, o.Cursor - 1, o.Cursor + 1, o.Image.N - 1, o.Image.N, o.Image.N + 1, math.MaxInt} {
			look(impl.Opt{Core: o.Core, Scan: o.Scan, Image: o.Image, Cursor: cursor})
			if o.Image.N > 0 && in(cursor, 0, o.Image.N) {
				look(impl.Opt{Core: o.Core, Scan: scanned(asHeardBySender(sentFrame(o.Core))[:cursor]), Image: o.Image, Cursor: cursor})
			}
		}
		for _, image := range spoiledImages(o.Image) {
			look(impl.Opt{Core: o.Core, Scan: o.Scan, Image: image, Cursor: o.Cursor})
		}
		for _, s := range append(spoiled(o.Scan), impl.Scan{}, startScan(), scanned("0"), scanned("00"), impl.Scan{F: impl.Frame{Data: []uint8{}}}) {
			look(impl.Opt{Core: o.Core, Scan: s, Image: o.Image, Cursor: o.Cursor})
		}
		for _, c := range spoiledCores(o.Core) {
			look(impl.Opt{Core: c, Scan: o.Scan, Image: o.Image, Cursor: o.Cursor})
		}
	}
	if wrong < 5000 || right < 500 {
		t.Errorf("%d were wrong, %d right", wrong, right)
	}
	expectOpt(t, impl.Opt{})
}

// A Cursor at Image.N is one beyond, even with the Scan that the whole image leads to.
func TestTheCursorsLastPlace(t *testing.T) {
	for _, f := range fewFrames() {
		n := len(impl.Encode(f))
		o := impl.PackRef(senderAt(t, f, n-1))
		if _, level := impl.OptDrive(o); level != 1 || o.Cursor != o.Image.N-1 {
			t.Fatalf("at the last bit: %+v", o)
		}
		if sameOpts(impl.OptStep(o, 1), impl.Opt{}) {
			t.Errorf("the last place is refused")
		}
		for _, s := range []impl.Scan{o.Scan, scanned(impl.Encode(f)), {}} {
			beyond := impl.Opt{Core: o.Core, Scan: s, Image: o.Image, Cursor: o.Image.N}
			if got, level := impl.OptDrive(beyond); level != 1 || !sameOpts(got, impl.Opt{}) || !sameOpts(impl.OptStep(beyond, 1), impl.Opt{}) {
				t.Errorf("one beyond is taken: %+v", got)
			}
		}
	}
}

func TestOtherBits(t *testing.T) {
	for _, r := range someRefs(t) {
		for _, bit := range []int{-1, 2, 3, '0', '1', 256, 257, 1 << 32, math.MinInt, math.MaxInt} {
			if got := impl.RefStep(r, bit); !sameRefs(got, impl.Ref{}) {
				t.Errorf("RefStep with %d: %+v", bit, got)
			}
			if got := impl.OptStep(impl.PackRef(r), bit); !sameOpts(got, impl.Opt{}) {
				t.Errorf("OptStep with %d: %+v", bit, got)
			}
		}
	}
}

// Hosts that are wrong are found through either controller.
func TestControllersWithAWrongHost(t *testing.T) {
	for _, r := range []impl.Ref{senderAt(t, impl.Frame{Id: 6}, 9), hearerOf(t, "00"), atRest(t, impl.Frame{Id: 6})} {
		for _, h := range spoiledHosts(r.Core.Host) {
			s := r
			s.Core.Host = h
			expectRef(t, s)
			o := impl.PackRef(r)
			o.Core.Host = h
			expectOpt(t, o)
		}
	}
}

// The bytes of a Scan lie often in memory with room behind them, which a step must leave alone.
func TestAStepLeavesTheScansBytesAlone(t *testing.T) {
	room := append(make([]uint8, 0, 8), 0x81, 0x01)
	o := impl.Opt{Core: hearerOf(t, "0").Core, Scan: impl.Scan{Field: impl.FieldData, Left: 20, Run: 1, F: impl.Frame{Dlc: 4, Data: room}}}
	if got := impl.OptStep(o, 1); room[1] != 0x01 || got.Scan.F.Data[1] != 0x03 {
		t.Errorf("the bytes %v became %v", room, got.Scan.F.Data)
	}
	o.Scan.Left = 16
	if got := impl.OptStep(o, 1); room[:3][2] != 0 || len(got.Scan.F.Data) != 3 {
		t.Errorf("a new byte was put into the argument's memory: %v, %v", room[:3], got.Scan.F.Data)
	}
	o.Scan = impl.Scan{Field: impl.FieldEof, Left: 2, F: impl.Frame{Dlc: 2, Data: room}}
	got := impl.OptStep(o, 1)
	expectApart(t, "a frame that is delivered", append(optRegions(got), optRegions(o)...)...)
	if len(got.Core.Host.Fifo) != 1 || len(got.Core.Host.Queue) != 1 {
		t.Errorf("it was not delivered: %+v", got)
	}
}
