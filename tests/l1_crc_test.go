package tests

import (
	"strings"
	"testing"

	"loop.example/s01647/impl"
)

// slowCrc divides by the generator with long division, apart from the program's register.
func slowCrc(bits string) int {
	row := []byte(bits + strings.Repeat("0", 15))
	generator := "1" + numberText(0x4599, 15)
	for i := range len(bits) {
		if row[i] == '0' {
			continue
		}
		for k := range generator {
			row[i+k] = '0' + (row[i+k]^generator[k])&1
		}
	}
	sum := 0
	for _, letter := range row[len(bits):] {
		sum = 2*sum + int(letter-'0')
	}
	return sum
}

func TestCrc15AgainstLongDivision(t *testing.T) {
	for text := range everyText(10) {
		if got, want := impl.Crc15(text), slowCrc(text); got != want {
			t.Errorf("Crc15(%q) = %d, want %d", text, got, want)
		}
	}
	d := dice(3)
	for _, length := range []int{15, 16, 17, 64, 118, 127, impl.MaxPlain - 1, impl.MaxPlain} {
		text := d.text(length)
		if got, want := impl.Crc15(text), slowCrc(text); got != want {
			t.Errorf("Crc15 of %d letters = %d, want %d", length, got, want)
		}
	}
}

func TestCrc15Refuses(t *testing.T) {
	for _, text := range append(wrongTexts(), strings.Repeat("0", impl.MaxPlain+1), strings.Repeat("1", impl.MaxLine)) {
		if got := impl.Crc15(text); got != -1 {
			t.Errorf("Crc15(%.40q) = %d, want -1", text, got)
		}
	}
	if got := impl.Crc15(""); got != 0 {
		t.Errorf("Crc15 of nothing = %d", got)
	}
}

// openBits are the places among the plain bits that may be turned without turning the frame into one of another shape.
func openBits(f impl.Frame) []int {
	fixed := map[int]bool{0: true, 12: true, 13: true}
	dlc := 15
	if f.Ext {
		fixed[32] = true
		dlc = 35
	}
	for i := range 4 {
		fixed[dlc+i] = true
	}
	var out []int
	for i := range len(plainOf(f)) {
		if !fixed[i] {
			out = append(out, i)
		}
	}
	return out
}

func expectCrc(t *testing.T, f impl.Frame, at []int) {
	t.Helper()
	plain := plainOf(f)
	for _, i := range at {
		plain = turned(plain, i)
	}
	for _, end := range []string{"111", "101"} {
		got, code := impl.Decode(impl.Stuff(plain) + end)
		if code != impl.VerdictCrc || !sameFrames(got, impl.Frame{}) {
			t.Errorf("%+v with bits %v turned: %+v, %d, want VerdictCrc", f, at, got, code)
		}
		if v := impl.Judge(impl.Stuff(plain) + end[:2]); v != (impl.Verdict{Next: impl.FieldAckDel}) {
			t.Errorf("%+v with bits %v turned: %+v ahead of FieldAckDel", f, at, v)
		}
	}
}

func TestP5OneOrTwoTurnedBits(t *testing.T) {
	for _, f := range []impl.Frame{
		{},
		{Id: 2047, Rtr: true, Dlc: 15},
		{Id: 0x2a5, Dlc: 3, Data: []uint8{0xff, 0, 0x5a}},
		{Ext: true, Id: 0x1234567, Rtr: true, Dlc: 8},
		{Ext: true, Id: 0x1fffffff, Dlc: 9, Data: []uint8{1, 2, 3, 0, 0, 255, 255, 128}},
	} {
		open := openBits(f)
		for k, i := range open {
			expectCrc(t, f, []int{i})
			for _, j := range open[:k] {
				expectCrc(t, f, []int{i, j})
			}
		}
	}
}

func TestP5UpToFiveTurnedBits(t *testing.T) {
	d := dice(5)
	for _, f := range someFrames() {
		open := openBits(f)
		for count := 1; count <= 5; count++ {
			for range 3 {
				d.shuffle(open)
				expectCrc(t, f, open[:count])
			}
		}
	}
}

func (d *dice) shuffle(list []int) {
	for i := len(list) - 1; i > 0; i-- {
		j := d.roll(i + 1)
		list[i], list[j] = list[j], list[i]
	}
}
