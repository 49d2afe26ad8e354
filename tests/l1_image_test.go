package tests

import (
	"strings"
	"testing"

	"loop.example/s01647/impl"
)

func TestP2JudgeAndDecodeOfEncode(t *testing.T) {
	for _, f := range someFrames() {
		for _, level := range []string{"0", "1"} {
			heard := withAck(impl.Encode(f), level)
			expectVerdict(t, heard, impl.Verdict{Code: impl.VerdictWhole})
			if got, code := impl.Decode(heard); code != impl.VerdictWhole || !sameFrames(got, f) {
				t.Errorf("Decode of the image of %+v = %+v, %d", f, got, code)
			}
			if got, code := impl.Decode(heard[:len(heard)-1]); code != impl.VerdictValid || !sameFrames(got, f) {
				t.Errorf("Decode of the image of %+v but its last bit = %+v, %d", f, got, code)
			}
		}
	}
}

func TestP3EveryShorterBeginning(t *testing.T) {
	for _, f := range someFrames() {
		image := impl.Encode(f)
		for n := range len(image) {
			want := impl.VerdictMore
			if n == len(image)-1 {
				want = impl.VerdictValid
			}
			if got := impl.Judge(image[:n]); got.Code != want {
				t.Errorf("Judge of %d bits of the image of %+v = %+v", n, f, got)
			}
			if got, code := impl.Decode(image[:n]); code != want || code == impl.VerdictMore && !sameFrames(got, impl.Frame{}) {
				t.Errorf("Decode of %d bits of the image of %+v = %+v, %d", n, f, got, code)
			}
		}
	}
}

func expectLesserFirst(t *testing.T, f, g impl.Frame) {
	t.Helper()
	a, b := impl.Arb(f), impl.Arb(g)
	if a == b {
		return
	}
	if strings.HasPrefix(a, b) || strings.HasPrefix(b, a) {
		t.Errorf("one Arb begins the other: %+v, %+v", f, g)
	}
	if b < a {
		f, g = g, f
	}
	low, high := impl.Encode(f), impl.Encode(g)
	i := 0
	for i < min(len(low), len(high)) && low[i] == high[i] {
		i++
	}
	if i == min(len(low), len(high)) || low[i] != '0' || high[i] != '1' {
		t.Errorf("the lesser Arb does not win: %+v over %+v", f, g)
	}
}

func TestP4TheLesserArbWins(t *testing.T) {
	var frames []impl.Frame
	for _, f := range edgeFrames() {
		if f.Dlc == 0 || f.Dlc == 9 {
			frames = append(frames, f)
		}
	}
	d := dice(4)
	for range 200 {
		f := d.frame()
		frames = append(frames, f)
		f.Ext = true
		f.Id = f.Id&0x7ff<<18 | uint32(d.roll(4))
		frames = append(frames, f)
	}
	for i, f := range frames {
		for _, g := range frames[:i] {
			expectLesserFirst(t, f, g)
		}
	}
}

func TestP4WhoWins(t *testing.T) {
	order := []impl.Frame{
		{Id: 0},
		{Id: 0, Rtr: true},
		{Ext: true, Id: 0},
		{Ext: true, Id: 0, Rtr: true},
		{Ext: true, Id: 1},
		{Ext: true, Id: 1<<18 - 1, Rtr: true},
		{Id: 1},
		{Id: 1, Rtr: true, Dlc: 3},
		{Ext: true, Id: 1 << 18},
		{Id: 2047},
		{Id: 2047, Rtr: true},
		{Ext: true, Id: 1<<29 - 1},
		{Ext: true, Id: 1<<29 - 1, Rtr: true},
	}
	for i := 1; i < len(order); i++ {
		if a, b := impl.Arb(order[i-1]), impl.Arb(order[i]); a >= b {
			t.Errorf("Arb of %+v is not below that of %+v: %q, %q", order[i-1], order[i], a, b)
		}
		expectLesserFirst(t, order[i-1], order[i])
	}
}

func TestBodyAndArbOfEveryKind(t *testing.T) {
	for _, c := range []struct {
		f         impl.Frame
		arb, rest string
	}{
		{impl.Frame{}, "0000000000000", "00000"},
		{impl.Frame{Id: 0x555, Dlc: 2, Data: []uint8{0x80, 0x0f}}, "1010101010100", "00010" + "1000000000001111"},
		{impl.Frame{Id: 0x400, Rtr: true, Dlc: 8}, "1000000000010", "01000"},
		{impl.Frame{Ext: true, Id: 0x10000001, Dlc: 1, Data: []uint8{0xa5}}, "10000000000" + "11" + "000000000000000001" + "0", "000001" + "10100101"},
		{impl.Frame{Ext: true, Id: 0x0003ffff, Rtr: true, Dlc: 15}, "00000000000" + "11" + "111111111111111111" + "1", "001111"},
		{impl.Frame{Dlc: 12, Data: []uint8{1, 2, 3, 4, 5, 6, 7, 8}}, "0000000000000", "01100" + "0000000100000010000000110000010000000101000001100000011100001000"},
	} {
		if got := impl.Arb(c.f); got != c.arb {
			t.Errorf("Arb(%+v) = %q, want %q", c.f, got, c.arb)
		}
		body := "0" + c.arb + c.rest
		if got := impl.Body(c.f); got != body {
			t.Errorf("Body(%+v) = %q, want %q", c.f, got, body)
		}
		if got := impl.Encode(c.f); got != heardOf(body, "1") {
			t.Errorf("Encode(%+v) = %q", c.f, got)
		}
	}
}

func TestEveryCodeOfLength(t *testing.T) {
	for dlc := range 16 {
		for length := range 18 {
			data := make([]uint8, length)
			if got := impl.ValidFrame(impl.Frame{Dlc: dlc, Data: data}); got != (length == min(dlc, 8)) {
				t.Errorf("ValidFrame with Dlc %d and %d bytes: %v", dlc, length, got)
			}
			if got := impl.ValidFrame(impl.Frame{Rtr: true, Dlc: dlc, Data: data}); got != (length == 0) {
				t.Errorf("ValidFrame of a remote frame with Dlc %d and %d bytes: %v", dlc, length, got)
			}
		}
	}
	for _, f := range someFrames() {
		if !impl.ValidFrame(f) {
			t.Errorf("ValidFrame(%+v) is false", f)
		}
	}
}

func TestWrongFramesHaveNoBits(t *testing.T) {
	for _, f := range wrongFrames() {
		if impl.ValidFrame(f) {
			t.Errorf("ValidFrame is true: Ext %v, Id %d, Rtr %v, Dlc %d, %d bytes", f.Ext, f.Id, f.Rtr, f.Dlc, len(f.Data))
		}
		if impl.Body(f) != "" || impl.Arb(f) != "" || impl.Encode(f) != "" {
			t.Errorf("a wrong frame has bits: Ext %v, Id %d, Rtr %v, Dlc %d, %d bytes", f.Ext, f.Id, f.Rtr, f.Dlc, len(f.Data))
		}
	}
}

func TestNothingIsSharedOrWritten(t *testing.T) {
	f := impl.Frame{Id: 3, Dlc: 3, Data: []uint8{9, 8, 7}}
	image := impl.Encode(f)
	impl.ValidFrame(f)
	impl.Body(f)
	if !sameFrames(f, impl.Frame{Id: 3, Dlc: 3, Data: []uint8{9, 8, 7}}) {
		t.Errorf("the frame was written to: %+v", f)
	}
	first, _ := impl.Decode(image)
	first.Data[0] = 1
	if second, _ := impl.Decode(image); !sameFrames(second, f) {
		t.Errorf("Decode gives out shared memory: %+v", second)
	}
	wrong := impl.Frame{Rtr: true, Dlc: 2, Data: []uint8{4, 5}}
	impl.ValidFrame(wrong)
	if wrong.Data[0] != 4 || wrong.Data[1] != 5 {
		t.Errorf("the data of a wrong frame were written to: %v", wrong.Data)
	}
}
