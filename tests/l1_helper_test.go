package tests

import (
	"bytes"
	"iter"
	"math"
	"strings"
	"testing"

	"loop.example/s01647/impl"
)

// dice rolls the same row of numbers in every run, so that a failure can be seen again.
type dice uint64

func (d *dice) roll(sides int) int {
	*d ^= *d << 13
	*d ^= *d >> 7
	*d ^= *d << 17
	return int((uint64(*d) >> 11) % uint64(sides))
}

func (d *dice) text(length int) string {
	out := make([]byte, length)
	for i := range out {
		out[i] = '0' + byte(d.roll(2))
	}
	return string(out)
}

// runs is a text of long equal rows, in which stuff bits come thick.
func (d *dice) runs(length int) string {
	out := ""
	for len(out) < length {
		out += strings.Repeat(string('0'+rune(d.roll(2))), 1+d.roll(9))
	}
	return out[:length]
}

func (d *dice) frame() impl.Frame {
	f := impl.Frame{Ext: d.roll(2) == 1, Rtr: d.roll(4) == 0, Dlc: d.roll(16)}
	f.Id = uint32(d.roll(1 << 11))
	if f.Ext {
		f.Id = uint32(d.roll(1 << 29))
	}
	if !f.Rtr {
		f.Data = make([]uint8, min(f.Dlc, 8))
	}
	plain := d.roll(3)
	for i := range f.Data {
		f.Data[i] = []uint8{0, 255, uint8(d.roll(256))}[plain]
	}
	return f
}

// edgeFrames are frames of every kind and every code, with the identifiers and data that make the longest rows of equal bits.
func edgeFrames() []impl.Frame {
	var out []impl.Frame
	for _, ext := range []bool{false, true} {
		ids := []uint32{0, 1, 0x400, 0x555, 0x7f8, 0x7ff}
		if ext {
			ids = append(ids, 0x3ffff, 0x40000, 0x10000000, 0x1f07c1f0, 0x1fffffff)
		}
		for _, id := range ids {
			for dlc := range 16 {
				out = append(out, impl.Frame{Ext: ext, Id: id, Rtr: true, Dlc: dlc})
				for _, fill := range []uint8{0x00, 0xff, 0x55, 0xf0, 0x1f} {
					out = append(out, impl.Frame{Ext: ext, Id: id, Dlc: dlc, Data: bytes.Repeat([]uint8{fill}, min(dlc, 8))})
				}
			}
		}
	}
	return out
}

// someFrames are the edges and as many again by the dice.
func someFrames() []impl.Frame {
	out := edgeFrames()
	d := dice(7)
	for range len(out) {
		out = append(out, d.frame())
	}
	return out
}

func wrongFrames() []impl.Frame {
	return []impl.Frame{
		{Id: 2048},
		{Id: math.MaxUint32},
		{Ext: true, Id: 1 << 29},
		{Ext: true, Id: math.MaxUint32},
		{Dlc: -1},
		{Dlc: math.MinInt},
		{Dlc: 16, Data: make([]uint8, 8)},
		{Dlc: math.MaxInt, Data: make([]uint8, 8)},
		{Rtr: true, Dlc: -1},
		{Rtr: true, Dlc: 16},
		{Rtr: true, Dlc: 1, Data: []uint8{1}},
		{Rtr: true, Data: []uint8{0}},
		{Dlc: 0, Data: []uint8{0}},
		{Dlc: 1},
		{Dlc: 8, Data: make([]uint8, 7)},
		{Dlc: 8, Data: make([]uint8, 9)},
		{Dlc: 9, Data: make([]uint8, 9)},
		{Dlc: 15, Data: make([]uint8, 15)},
		{Ext: true, Dlc: 2, Data: make([]uint8, 1<<20)},
	}
}

// everyText goes through all bit texts of at most so many letters, the empty one first.
func everyText(longest int) iter.Seq[string] {
	return func(yield func(string) bool) {
		for length := range longest + 1 {
			for value := range 1 << length {
				if !yield(numberText(value, length)) {
					return
				}
			}
		}
	}
}

// wrongTexts hold another letter than 0 and 1, first, last or between.
func wrongTexts() []string {
	return []string{"2", "/", " ", "x", "\n", "\x00", "\xff", "é", "\U0001F600", "０", "0x", "x0", "01a10", "0 1", "-1", "01\n", "00000\xc3", "0000002", "12", "\x30\x80\x31"}
}

func sameFrames(a, b impl.Frame) bool {
	return a.Ext == b.Ext && a.Id == b.Id && a.Rtr == b.Rtr && a.Dlc == b.Dlc && bytes.Equal(a.Data, b.Data)
}

func turned(text string, at int) string {
	return text[:at] + string('0'+'1'-text[at]) + text[at+1:]
}

// numberText is written apart from the program: the lowest bits of value, highest first.
func numberText(value, count int) string {
	out := ""
	for range count {
		out = string('0'+rune(value%2)) + out
		value /= 2
	}
	return out
}

func plainOf(f impl.Frame) string {
	body := impl.Body(f)
	return body + numberText(impl.Crc15(body), 15)
}

// heardOf is what a hearer samples of plain bits whose sum is put behind them.
func heardOf(body string, ack string) string {
	return impl.Stuff(body+numberText(impl.Crc15(body), 15)) + "1" + ack + "1" + "1111111"
}

// withAck puts a level into FieldAck of an image, which is the ninth bit from its end.
func withAck(image string, level string) string {
	at := len(image) - 9
	return image[:at] + level + image[at+1:]
}

func expectVerdict(t *testing.T, heard string, want impl.Verdict) {
	t.Helper()
	if got := impl.Judge(heard); got != want {
		t.Errorf("Judge(%.200q) = %+v, want %+v", heard, got, want)
	}
}
