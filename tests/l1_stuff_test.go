package tests

import (
	"strings"
	"testing"

	"loop.example/s01647/impl"
)

func expectBackAgain(t *testing.T, text string) {
	t.Helper()
	stuffed := impl.Stuff(text)
	if strings.Contains(stuffed, "000000") || strings.Contains(stuffed, "111111") {
		t.Errorf("Stuff(%.60q) = %.60q has six equal letters in a row", text, stuffed)
	}
	if got, at := impl.Destuff(stuffed); got != text || at != -1 {
		t.Errorf("Destuff of Stuff(%.60q) = %.60q, %d", text, got, at)
	}
}

func TestP1EveryShortText(t *testing.T) {
	for text := range everyText(14) {
		expectBackAgain(t, text)
	}
}

func TestP1LongTexts(t *testing.T) {
	d := dice(1)
	for range 300 {
		expectBackAgain(t, d.text(d.roll(impl.MaxPlain+1)))
		expectBackAgain(t, d.runs(d.roll(impl.MaxPlain+1)))
	}
	for _, piece := range []string{"0", "1", "01", "00001111", "11110000", "0000011111"} {
		text := strings.Repeat(piece, impl.MaxPlain)[:impl.MaxPlain]
		expectBackAgain(t, text)
		if impl.Stuff(text) == "" {
			t.Errorf("Stuff refuses MaxPlain letters of %q", piece)
		}
	}
}

func TestStuffTable(t *testing.T) {
	for _, c := range [][2]string{
		{"", ""},
		{"0", "0"},
		{"1", "1"},
		{"11111", "111110"},
		{"00000", "000001"},
		{"000000", "0000010"},
		{"111110", "1111100"},
		{"0111110", "01111100"},
		{"000001111", "00000111110"},
		{"0000011110000", "0000011111000001"},
		{strings.Repeat("0", 15), "000001000001000001"},
	} {
		if got := impl.Stuff(c[0]); got != c[1] {
			t.Errorf("Stuff(%q) = %q, want %q", c[0], got, c[1])
		}
	}
	for _, text := range append(wrongTexts(), strings.Repeat("01", impl.MaxPlain/2)+"0", strings.Repeat("0", impl.MaxLine+1)) {
		if got := impl.Stuff(text); got != "" {
			t.Errorf("Stuff(%.40q) = %.40q, want nothing", text, got)
		}
	}
}

func TestDestuffTable(t *testing.T) {
	for _, c := range []struct {
		in, want string
		at       int
	}{
		{"", "", -1},
		{"00000", "00000", -1},
		{"11111", "11111", -1},
		{"000001", "00000", -1},
		{"000000", "00000", 5},
		{"111111", "11111", 5},
		{"0111111", "011111", 6},
		{"1111110101", "11111", 5},
		{"00000111110", "000001111", -1},
		{"0000011111", "000001111", -1},
		{"00000111111", "000001111", 10},
		{strings.Repeat("01", impl.MaxLine/2), strings.Repeat("01", impl.MaxLine/2), -1},
		{strings.Repeat("0", impl.MaxLine), "00000", 5},
		{strings.Repeat("01", impl.MaxLine/2) + "0", "", -2},
	} {
		if got, at := impl.Destuff(c.in); got != c.want || at != c.at {
			t.Errorf("Destuff(%.40q) = %.40q, %d, want %.40q, %d", c.in, got, at, c.want, c.at)
		}
	}
	for _, text := range wrongTexts() {
		if got, at := impl.Destuff(text); got != "" || at != -2 {
			t.Errorf("Destuff(%q) = %q, %d, want nothing, -2", text, got, at)
		}
	}
}

// A fault anywhere is told by its index, with the text ahead of it.
func TestDestuffStopsAtTheFault(t *testing.T) {
	d := dice(2)
	for range 500 {
		ahead := impl.Stuff(d.runs(1 + d.roll(60)))
		level := ahead[len(ahead)-1:]
		row := len(ahead) - len(strings.TrimRight(ahead, level))
		ahead += strings.Repeat(level, 5-row)
		want, _ := impl.Destuff(ahead)
		if got, at := impl.Destuff(ahead + level + d.text(d.roll(9))); got != want || at != len(ahead) {
			t.Errorf("Destuff(%q and %s) = %q, %d, want %q, %d", ahead, level, got, at, want, len(ahead))
		}
	}
}
