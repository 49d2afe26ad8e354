package tests

import (
	"bytes"
	"strings"
	"testing"

	"loop.example/s01647/impl"
)

func startScan() impl.Scan {
	return impl.Scan{Field: impl.FieldSof, Left: 1}
}

func sameScans(a, b impl.Scan) bool {
	return a.Field == b.Field && a.Left == b.Left && a.Run == b.Run && a.Level == b.Level && a.Crc == b.Crc && a.Acc == b.Acc && sameFrames(a.F, b.F)
}

func goesOn(code int) bool {
	return code == impl.VerdictMore || code == impl.VerdictValid
}

// expectP7 scans a text up to the first code behind which a scan doesn't go on, and answers how many bits that took.
func expectP7(t *testing.T, text string) int {
	t.Helper()
	s, code := startScan(), impl.VerdictMore
	for i := range len(text) {
		s, code = impl.ScanBit(s, int(text[i]-'0'))
		v := impl.Judge(text[:i+1])
		if code != v.Code {
			t.Errorf("ScanBit at bit %d of %q: code %d, want %d", i, text, code, v.Code)
			return i
		}
		if !goesOn(code) {
			if !sameScans(s, impl.Scan{}) {
				t.Errorf("ScanBit at bit %d of %q: %+v, want the zero Scan", i, text, s)
			}
			return i
		}
		if s.Field != v.Next || (s.Run == 5) != v.Due {
			t.Errorf("ScanBit at bit %d of %q: %+v, but Judge says %+v", i, text, s, v)
		}
		if f, _ := impl.Decode(text[:i+1]); code == impl.VerdictValid && !sameFrames(s.F, f) {
			t.Errorf("ScanBit at bit %d of %q: %+v, want %+v", i, text, s.F, f)
		}
	}
	return len(text)
}

func TestP7EveryShortText(t *testing.T) {
	for value := range 1 << 15 {
		expectP7(t, numberText(value, 15))
		expectP7(t, "0"+numberText(value, 15))
	}
}

func TestP7Images(t *testing.T) {
	d := dice(51)
	for _, f := range someFrames() {
		image := withAck(impl.Encode(f), d.text(1))
		if n := expectP7(t, image+"1"); n != len(image)-1 {
			t.Errorf("the scan of %+v ends at bit %d of %d", f, n, len(image))
		}
		expectP7(t, image[:len(image)-1]+"0")
	}
}

func TestP7TurnedBits(t *testing.T) {
	d := dice(52)
	for range 60 {
		image := impl.Encode(d.frame())
		for i := range image {
			expectP7(t, turned(image, i)+"11")
			expectP7(t, turned(turned(image, i), d.roll(len(image))))
		}
	}
}

// Bodies of random bits end as frames with either level in the fixed bits, or with a sum that is wrong.
func TestP7RandomBodies(t *testing.T) {
	d := dice(53)
	for range 1500 {
		body := d.body()
		expectP7(t, heardOf(body, d.text(1)))
		expectP7(t, impl.Stuff(body+d.text(15))+"1"+d.text(1)+d.text(3))
	}
}

func TestP7LongTexts(t *testing.T) {
	d := dice(54)
	for range 40 {
		expectP7(t, d.text(impl.MaxLine))
		expectP7(t, "0"+d.runs(impl.MaxLine-1))
		image := impl.Encode(d.frame())
		expectP7(t, image+strings.Repeat("1", impl.MaxLine-len(image)))
	}
}

// between is the part of a text from one place up to another, as far as the text goes.
func between(text string, from, end int) string {
	end = min(end, len(text))
	return text[min(from, end):end]
}

func valueOf(text string) int {
	value := 0
	for _, letter := range text {
		value = 2*value + int(letter-'0')
	}
	return value
}

// knownFrame is what plain bits tell of their frame so far.
func knownFrame(plain string) impl.Frame {
	dlc, crc, _ := shape(plain)
	ext := between(plain, 13, 14) == "1"
	f := impl.Frame{Ext: ext, Rtr: between(plain, 12, 13) == "1"}
	id := between(plain, 1, 12)
	if ext {
		id += between(plain, 14, 32)
		f.Rtr = between(plain, 32, 33) == "1"
	}
	f.Id = uint32(valueOf(id))
	f.Dlc = valueOf(between(plain, dlc, dlc+4))
	data := between(plain, dlc+4, crc)
	for i := 0; i < len(data); i += 8 {
		f.Data = append(f.Data, uint8(valueOf(between(data, i, i+8))))
	}
	return f
}

// knownScan is what a scanner must hold behind bits that are all well, told from all of them anew.
func knownScan(heard string) impl.Scan {
	plain, _ := impl.Destuff(heard)
	_, _, end := shape(plain)
	if len(plain) > end {
		plain = plain[:end]
		plain += heard[len(impl.Stuff(plain)):]
	}
	n := len(plain)
	dlc, crc, _ := shape(plain)
	s := impl.Scan{Field: fieldBehind(plain), Left: 1, F: knownFrame(plain)}
	ends := map[int]int{impl.FieldIdA: 12, impl.FieldIdB: 32, impl.FieldRes: dlc, impl.FieldDlc: dlc + 4, impl.FieldData: crc, impl.FieldCrc: end, impl.FieldEof: end + 10}
	if at, ok := ends[s.Field]; ok {
		s.Left = at - n
	}
	if s.Field != impl.FieldSof && s.Field <= impl.FieldCrcDel {
		level := heard[len(heard)-1:]
		s.Level = valueOf(level)
		s.Run = len(heard) - len(strings.TrimRight(heard, level))
	}
	s.Crc = slowCrc(between(plain, 0, crc))
	s.Acc = valueOf(between(plain, crc, end))
	return s
}

// Every number of the Scan is looked at behind every bit of every field, with the stuff bits.
func TestScanOfEveryBit(t *testing.T) {
	d := dice(55)
	for _, f := range someFrames() {
		image := withAck(impl.Encode(f), d.text(1))
		s := startScan()
		for i := range len(image) - 1 {
			s, _ = impl.ScanBit(s, int(image[i]-'0'))
			if want := knownScan(image[:i+1]); !sameScans(s, want) {
				t.Fatalf("behind %q: %+v, want %+v", image[:i+1], s, want)
			}
		}
	}
}

func TestStuffBitDueAtTheDelimiter(t *testing.T) {
	for _, level := range []string{"0", "1"} {
		_, ahead := frameEndingIn(t, level)
		s := startScan()
		for i := range len(ahead) {
			s, _ = impl.ScanBit(s, int(ahead[i]-'0'))
		}
		bit := valueOf(level)
		if s.Field != impl.FieldCrcDel || s.Left != 1 || s.Run != 5 || s.Level != bit || s.Crc != s.Acc {
			t.Fatalf("behind the sum: %+v", s)
		}
		if z, code := impl.ScanBit(s, bit); code != impl.VerdictStuff || !sameScans(z, impl.Scan{}) {
			t.Errorf("a sixth %s: %+v, %d", level, z, code)
		}
		want := s
		want.Run, want.Level = 1, 1-bit
		s, code := impl.ScanBit(s, 1-bit)
		if code != impl.VerdictMore || !sameScans(s, want) {
			t.Errorf("behind the stuff bit: %+v, %d, want %+v", s, code, want)
		}
		if _, code := impl.ScanBit(s, 0); code != impl.VerdictForm {
			t.Errorf("a dominant delimiter: %d", code)
		}
		want.Field, want.Run, want.Level = impl.FieldAck, 0, 0
		if s, code := impl.ScanBit(s, 1); code != impl.VerdictMore || !sameScans(s, want) {
			t.Errorf("behind the delimiter: %+v, %d, want %+v", s, code, want)
		}
	}
}

func TestScanKeepsNoMemory(t *testing.T) {
	room := append(make([]uint8, 0, 8), 0x81, 0x01)
	s := impl.Scan{Field: impl.FieldData, Left: 20, Run: 1, F: impl.Frame{Dlc: 4, Data: room}}
	next, _ := impl.ScanBit(s, 1)
	if !bytes.Equal(room, []uint8{0x81, 0x01}) || !bytes.Equal(next.F.Data, []uint8{0x81, 0x03}) {
		t.Errorf("the bytes %v became %v", room, next.F.Data)
	}
	s.Left = 16
	grown, _ := impl.ScanBit(s, 1)
	if room[:3][2] != 0 || !bytes.Equal(grown.F.Data, []uint8{0x81, 0x01, 0x01}) {
		t.Errorf("a new byte was put into the argument's memory: %v, %v", room[:3], grown.F.Data)
	}
	for _, at := range []impl.Scan{
		{Field: impl.FieldIdA, Left: 5, Run: 5, F: impl.Frame{Data: room}},
		{Field: impl.FieldIdA, Left: 5, Run: 2, F: impl.Frame{Data: room}},
		{Field: impl.FieldEof, Left: 2, F: impl.Frame{Data: room}},
	} {
		next, code := impl.ScanBit(at, 1)
		if !goesOn(code) || !bytes.Equal(next.F.Data, room) {
			t.Fatalf("ScanBit(%+v, 1) = %+v, %d", at, next, code)
		}
		next.F.Data[0] = 7
		if room[0] != 0x81 {
			t.Errorf("the answer to %+v shares its bytes", at)
		}
		room[0] = 0x81
	}
}
