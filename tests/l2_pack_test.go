package tests

import (
	"math"
	"strings"
	"sync"
	"testing"

	"loop.example/s01647/impl"
)

// lengths lie at and around the multiples of eight and of 64, and at the limits.
func lengths() []int {
	out := []int{}
	for n := range 140 {
		out = append(out, n)
	}
	for n := 192; n < impl.MaxLine; n += 64 {
		out = append(out, n-1, n, n+1, n+8, n+9)
	}
	return append(out, impl.MaxPlain-1, impl.MaxPlain, impl.MaxLine-1, impl.MaxLine)
}

// bitOf is bit i as the document places it, counted by halving.
func bitOf(words []uint64, i int) byte {
	word := words[i/64]
	for range 63 - i%64 {
		word /= 2
	}
	return '0' + byte(word%2)
}

func expectPacked(t *testing.T, text string) {
	t.Helper()
	p := impl.Pack(text)
	if p.N != len(text) || len(p.Words) != (len(text)+63)/64 {
		t.Errorf("Pack of %d letters has N %d and %d words", len(text), p.N, len(p.Words))
		return
	}
	if got := impl.Unpack(p); got != text {
		t.Errorf("Unpack of Pack(%.80q) = %.80q", text, got)
	}
}

func TestP6UnpackOfPack(t *testing.T) {
	for text := range everyText(12) {
		expectPacked(t, text)
	}
	d := dice(21)
	for _, length := range lengths() {
		expectPacked(t, d.text(length))
		expectPacked(t, strings.Repeat("1", length))
		expectPacked(t, strings.Repeat("0", length))
	}
}

// Each bit lies where the document puts it, and the rest of the last word is empty.
func TestPackPutsEachBitInItsPlace(t *testing.T) {
	d := dice(22)
	for _, length := range []int{1, 7, 8, 63, 64, 65, 127, 128, 129, 200, 1000} {
		text := d.text(length)
		p := impl.Pack(text)
		for i := range 64 * len(p.Words) {
			want := byte('0')
			if i < length {
				want = text[i]
			}
			if got := bitOf(p.Words, i); got != want {
				t.Errorf("bit %d of Pack of %d letters is %c, want %c", i, length, got, want)
			}
		}
	}
}

func TestPackRefuses(t *testing.T) {
	long := strings.Repeat("01", impl.MaxLine/2)
	for _, text := range append(wrongTexts(), long+"0", long+long, long[1:]+"x", "") {
		if p := impl.Pack(text); p.N != 0 || len(p.Words) != 0 {
			t.Errorf("Pack(%.40q) = %+v, want the zero Packed", text, p)
		}
	}
}

// wrongPacked are lists of bits with one thing wrong each.
func wrongPacked() []impl.Packed {
	out := []impl.Packed{
		{N: -1},
		{N: -64, Words: []uint64{0}},
		{N: math.MinInt},
		{N: math.MaxInt},
		{N: math.MaxInt - 62, Words: []uint64{0}},
		{N: 0, Words: []uint64{0}},
		{N: 1},
		{N: 64},
		{N: 65, Words: []uint64{0}},
		{N: 64, Words: []uint64{0, 0}},
		{N: 128, Words: []uint64{0, 0, 0}},
		{N: 128, Words: []uint64{0}},
		{N: impl.MaxLine, Words: make([]uint64, 62)},
		{N: impl.MaxLine, Words: make([]uint64, 64)},
		{N: impl.MaxLine + 1, Words: make([]uint64, 63)},
		{N: 4032, Words: make([]uint64, 63)},
		{N: 4033, Words: make([]uint64, 64)},
	}
	for _, n := range []int{1, 8, 31, 32, 56, 63, 65, 120, 127, 1999, impl.MaxLine} {
		for at := n; at%64 != 0; at++ {
			words := make([]uint64, (n+63)/64)
			words[at/64] = 1 << (63 - at%64)
			out = append(out, impl.Packed{N: n, Words: words})
		}
	}
	return out
}

func TestUnpackRefuses(t *testing.T) {
	for _, p := range wrongPacked() {
		if got := impl.Unpack(p); got != "" {
			t.Errorf("Unpack of N %d with %d words = %.40q, want nothing", p.N, len(p.Words), got)
		}
		if got := impl.CrcPacked(p); got != -1 {
			t.Errorf("CrcPacked of N %d with %d words = %d, want -1", p.N, len(p.Words), got)
		}
	}
}

// Where the last word is full, there are no bits beyond N to be asked for.
func TestUnpackOfFullWords(t *testing.T) {
	for count := range 63 {
		words := make([]uint64, count)
		for i := range words {
			words[i] = math.MaxUint64
		}
		if got := impl.Unpack(impl.Packed{N: 64 * count, Words: words}); got != strings.Repeat("1", 64*count) {
			t.Errorf("Unpack of %d full words has %d letters", count, len(got))
		}
	}
}

func expectSum(t *testing.T, text string) {
	t.Helper()
	got := impl.CrcPacked(impl.Pack(text))
	if want := slowCrc(text); got != want || got != impl.Crc15(text) {
		t.Errorf("CrcPacked of %.80q (%d) = %d, want %d", text, len(text), got, want)
	}
}

func TestP6CrcPackedAgrees(t *testing.T) {
	for text := range everyText(12) {
		expectSum(t, text)
	}
	d := dice(23)
	for _, length := range lengths() {
		if length <= impl.MaxPlain {
			expectSum(t, d.text(length))
			expectSum(t, strings.Repeat("1", length))
		}
	}
	for octet := range 256 {
		for _, ahead := range []string{"", "1", "0110100111000101", d.text(71)} {
			expectSum(t, ahead+numberText(octet, 8))
		}
	}
}

func TestCrcPackedRefuses(t *testing.T) {
	if got := impl.CrcPacked(impl.Packed{}); got != 0 {
		t.Errorf("CrcPacked of nothing = %d", got)
	}
	for _, length := range []int{impl.MaxPlain + 1, impl.MaxPlain + 8, 2048, impl.MaxLine} {
		if got := impl.CrcPacked(impl.Pack(strings.Repeat("10", impl.MaxLine)[:length])); got != -1 {
			t.Errorf("CrcPacked of %d bits = %d, want -1", length, got)
		}
	}
}

// Calls at one time have each a table of their own; none may see half of another's.
func TestCrcPackedFromManySides(t *testing.T) {
	d := dice(24)
	text := d.text(impl.MaxPlain)
	p, want := impl.Pack(text), slowCrc(text)
	got := make([]int, 16)
	var all sync.WaitGroup
	for i := range got {
		all.Add(1)
		go func() {
			defer all.Done()
			got[i] = impl.CrcPacked(p)
		}()
	}
	all.Wait()
	for i := range got {
		if got[i] != want {
			t.Errorf("call %d: %d, want %d", i, got[i], want)
		}
	}
}

func TestPackedIsNewMemory(t *testing.T) {
	text := strings.Repeat("10", 50)
	p, q := impl.Pack(text), impl.Pack(text)
	sum := impl.CrcPacked(p)
	for i := range p.Words {
		p.Words[i] = 0
	}
	if impl.Unpack(q) != text || impl.Unpack(impl.Pack(text)) != text || impl.CrcPacked(q) != sum {
		t.Error("two answers of Pack share memory, or an argument was written to")
	}
	f := impl.Frame{Id: 77, Dlc: 3, Data: []uint8{1, 2, 3}}
	image, spans := impl.Image(f), impl.Spans(f)
	image.Words[0], spans[0].Count, spans[3].From = 0, 99, 99
	if impl.Unpack(impl.Image(f)) != impl.Encode(f) || impl.Spans(f)[0].Count != 1 || impl.Spans(f)[3].From == 99 {
		t.Error("two answers of Image or of Spans share memory")
	}
	if !sameFrames(f, impl.Frame{Id: 77, Dlc: 3, Data: []uint8{1, 2, 3}}) {
		t.Errorf("the frame was written to: %+v", f)
	}
}
