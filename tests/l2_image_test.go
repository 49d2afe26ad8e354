package tests

import (
	"slices"
	"testing"

	"loop.example/s01647/impl"
)

func TestP6ImageUnpacksToEncode(t *testing.T) {
	for _, f := range someFrames() {
		image := impl.Image(f)
		if got, want := impl.Unpack(image), impl.Encode(f); got != want || image.N != len(want) {
			t.Errorf("Image(%+v) = %d bits %q, want %q", f, image.N, got, want)
		}
	}
	d := dice(31)
	for range 3000 {
		f := d.frame()
		if got, want := impl.Unpack(impl.Image(f)), impl.Encode(f); got != want {
			t.Errorf("Image(%+v) = %q, want %q", f, got, want)
		}
	}
}

func TestWrongFramesHaveNoImage(t *testing.T) {
	for _, f := range wrongFrames() {
		if p := impl.Image(f); p.N != 0 || len(p.Words) != 0 {
			t.Errorf("Image of a wrong frame has %d bits: Ext %v, Id %d, Rtr %v, Dlc %d, %d bytes", p.N, f.Ext, f.Id, f.Rtr, f.Dlc, len(f.Data))
		}
		if got := impl.Spans(f); len(got) != 0 {
			t.Errorf("Spans of a wrong frame: %v: Ext %v, Id %d, Rtr %v, Dlc %d, %d bytes", got, f.Ext, f.Id, f.Rtr, f.Dlc, len(f.Data))
		}
	}
}

// slowSpans finds where each field of the plain bits ends, and how long those are once stuffed: what is stuffed into a beginning is behind its last plain bit.
func slowSpans(f impl.Frame) []impl.Span {
	plain := plainOf(f)
	var out []impl.Span
	from := 0
	for n := range len(plain) + 10 {
		field := fieldBehind((plain + "1111111111")[:n])
		if n+1 < len(plain)+10 && fieldBehind((plain + "1111111111")[:n+1]) == field {
			continue
		}
		end := len(impl.Stuff(plain[:min(n+1, len(plain))])) + max(0, n+1-len(plain))
		out = append(out, impl.Span{Field: field, From: from, Count: end - from})
		from = end
	}
	return out
}

func TestP6SpansLieSideBySide(t *testing.T) {
	for _, f := range someFrames() {
		from, field := 0, 0
		for _, span := range impl.Spans(f) {
			if span.From != from || span.Count < 1 || span.Field <= field {
				t.Errorf("Spans(%+v) = %v", f, impl.Spans(f))
				break
			}
			from, field = span.From+span.Count, span.Field
		}
		if from != len(impl.Encode(f)) {
			t.Errorf("Spans(%+v) cover %d of %d bits", f, from, len(impl.Encode(f)))
		}
	}
}

func TestSpansOfEveryFrame(t *testing.T) {
	for _, f := range someFrames() {
		if got, want := impl.Spans(f), slowSpans(f); !slices.Equal(got, want) {
			t.Errorf("Spans(%+v) = %v, want %v", f, got, want)
		}
	}
}

func TestSpansByHand(t *testing.T) {
	// 0 0000(1)0001111 0 0 0 00(1)01 00110011: a stuff bit in FieldIdA and one in FieldDlc.
	base := impl.Frame{Id: 0x00f, Dlc: 1, Data: []uint8{0x33}}
	// 0 10101010101 1 1 101010101010101010 1 00 0101: none up to FieldDlc.
	ext := impl.Frame{Ext: true, Id: 0x555<<18 | 0x2aaaa, Rtr: true, Dlc: 5}
	for _, c := range []struct {
		f     impl.Frame
		ahead []impl.Span // of FieldCrc
	}{
		{base, []impl.Span{{Field: impl.FieldSof, From: 0, Count: 1}, {Field: impl.FieldIdA, From: 1, Count: 12}, {Field: impl.FieldRtr, From: 13, Count: 1}, {Field: impl.FieldIde, From: 14, Count: 1}, {Field: impl.FieldRes, From: 15, Count: 1}, {Field: impl.FieldDlc, From: 16, Count: 5}, {Field: impl.FieldData, From: 21, Count: 8}}},
		{ext, []impl.Span{{Field: impl.FieldSof, From: 0, Count: 1}, {Field: impl.FieldIdA, From: 1, Count: 11}, {Field: impl.FieldRtr, From: 12, Count: 1}, {Field: impl.FieldIde, From: 13, Count: 1}, {Field: impl.FieldIdB, From: 14, Count: 18}, {Field: impl.FieldRtrX, From: 32, Count: 1}, {Field: impl.FieldRes, From: 33, Count: 2}, {Field: impl.FieldDlc, From: 35, Count: 4}}},
	} {
		got := impl.Spans(c.f)
		if len(got) != len(c.ahead)+5 || !slices.Equal(got[:len(c.ahead)], c.ahead) {
			t.Errorf("Spans(%+v) = %v, want %v first", c.f, got, c.ahead)
			continue
		}
		at := len(impl.Encode(c.f)) - 10
		end := []impl.Span{{Field: impl.FieldCrcDel, From: at, Count: 1}, {Field: impl.FieldAck, From: at + 1, Count: 1}, {Field: impl.FieldAckDel, From: at + 2, Count: 1}, {Field: impl.FieldEof, From: at + 3, Count: 7}}
		if !slices.Equal(got[len(c.ahead)+1:], end) {
			t.Errorf("Spans(%+v) = %v, want %v last", c.f, got, end)
		}
	}
}

// A stuff bit behind the last bit of FieldCrc is of FieldCrc, not of the delimiter.
func TestSpanOfAStuffBitBehindTheSum(t *testing.T) {
	for _, level := range []string{"0", "1"} {
		f, ahead := frameEndingIn(t, level)
		spans := impl.Spans(f)
		sum, del := spans[len(spans)-5], spans[len(spans)-4]
		if sum.Field != impl.FieldCrc || sum.From+sum.Count != len(ahead)+1 || del != (impl.Span{Field: impl.FieldCrcDel, From: len(ahead) + 1, Count: 1}) {
			t.Errorf("Spans(%+v) end in %v", f, spans[len(spans)-5:])
		}
	}
}
