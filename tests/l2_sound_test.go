package tests

import (
	"bytes"
	"math"
	"testing"

	"loop.example/s01647/impl"
)

// sizeOf is the size of a field by the words of the document.
func sizeOf(field int, f impl.Frame) int {
	size := []int{impl.FieldSof: 1, impl.FieldIdA: 11, impl.FieldRtr: 1, impl.FieldIde: 1, impl.FieldIdB: 18, impl.FieldRtrX: 1, impl.FieldRes: 1, impl.FieldDlc: 4, impl.FieldData: 8 * min(f.Dlc, 8), impl.FieldCrc: 15, impl.FieldCrcDel: 1, impl.FieldAck: 1, impl.FieldAckDel: 1, impl.FieldEof: 7}[field]
	if field == impl.FieldRes && f.Ext {
		size = 2
	}
	return size
}

func in(value, least, most int) bool {
	return least <= value && value <= most
}

// isSound lists what the document asks of a sound Scan, in its order.
func isSound(s impl.Scan) bool {
	if !in(s.Field, impl.FieldSof, impl.FieldEof) || !in(s.Left, 1, sizeOf(s.Field, s.F)) {
		return false
	}
	if !in(s.Run, 0, 5) || !in(s.Level, 0, 1) || s.Run == 0 && s.Level != 0 {
		return false
	}
	if (s.Run == 0) != (s.Field == impl.FieldSof || s.Field > impl.FieldCrcDel) {
		return false
	}
	if !in(s.Crc, 0, 32767) || !in(s.Acc, 0, 32767) || s.F.Id >= 536870912 || !in(s.F.Dlc, 0, 15) || len(s.F.Data) > 8 {
		return false
	}
	if s.Field != impl.FieldData {
		return true
	}
	taken := sizeOf(s.Field, s.F) - s.Left
	return !s.F.Rtr && s.F.Dlc != 0 && len(s.F.Data) == taken/8+min(taken%8, 1)
}

// scan is a sound Scan that mostly no frame leads to.
func (d *dice) scan() impl.Scan {
	s := impl.Scan{Field: 1 + d.roll(14), Crc: d.roll(32768), Acc: d.roll(32768)}
	s.F = impl.Frame{Ext: d.roll(2) == 0, Id: uint32(d.roll(1 << 29)), Rtr: d.roll(2) == 0, Dlc: d.roll(16)}
	begun := d.roll(9)
	if s.Field == impl.FieldData {
		s.F.Rtr = false
		s.F.Dlc = 1 + d.roll(15)
	}
	s.Left = 1 + d.roll(sizeOf(s.Field, s.F))
	if s.Field == impl.FieldData {
		begun = (sizeOf(s.Field, s.F) - s.Left + 7) / 8
	}
	for range begun {
		s.F.Data = append(s.F.Data, uint8(d.roll(256)))
	}
	if s.Field != impl.FieldSof && s.Field <= impl.FieldCrcDel {
		s.Run, s.Level = 1+d.roll(5), d.roll(2)
	}
	if d.roll(3) == 0 {
		s.Acc = s.Crc
	}
	return s
}

// fieldBehindField is what comes once a field is full.
func fieldBehindField(field int, f impl.Frame) int {
	switch {
	case field == impl.FieldIde && !f.Ext:
		return impl.FieldRes
	case field == impl.FieldDlc && (f.Rtr || f.Dlc == 0):
		return impl.FieldCrc
	}
	return field + 1
}

// slowCode is the code of a plain bit by the third point of the document's list.
func slowCode(s impl.Scan, bit int) int {
	type end struct{ field, bit, left int }
	switch (end{s.Field, bit, s.Left}) {
	case end{impl.FieldSof, 1, 1}, end{impl.FieldCrcDel, 0, 1}, end{impl.FieldAckDel, 0, 1}:
		return impl.VerdictForm
	case end{impl.FieldEof, 0, 2}, end{impl.FieldEof, 0, 3}, end{impl.FieldEof, 0, 4}, end{impl.FieldEof, 0, 5}, end{impl.FieldEof, 0, 6}, end{impl.FieldEof, 0, 7}:
		return impl.VerdictForm
	case end{impl.FieldEof, 0, 1}:
		return impl.VerdictOver
	case end{impl.FieldEof, 1, 1}:
		return impl.VerdictWhole
	case end{impl.FieldEof, 1, 2}:
		return impl.VerdictValid
	case end{impl.FieldAckDel, 1, 1}:
		if s.Acc != s.Crc {
			return impl.VerdictCrc
		}
	}
	return impl.VerdictMore
}

// slowKept is the frame behind a plain bit.
func slowKept(s impl.Scan, bit int) impl.Frame {
	f := s.F
	f.Data = bytes.Clone(f.Data)
	switch s.Field {
	case impl.FieldIdA, impl.FieldIdB:
		f.Id = uint32((2*uint64(f.Id) + uint64(bit)) % (1 << 29))
	case impl.FieldRtr, impl.FieldRtrX:
		f.Rtr = bit == 1
	case impl.FieldIde:
		f.Ext = bit == 1
		if bit == 1 {
			f.Rtr = false
		}
	case impl.FieldDlc:
		f.Dlc = (2*f.Dlc + bit) % 16
	case impl.FieldData:
		if taken := sizeOf(s.Field, s.F) - s.Left; taken%8 == 0 {
			f.Data = append(f.Data, 0)
		}
		end := len(f.Data) - 1
		f.Data[end] = uint8((2*int(f.Data[end]) + bit) % 256)
	}
	return f
}

// slowScan says what ScanBit must answer, by the points of the document.
func slowScan(s impl.Scan, bit int) (impl.Scan, int) {
	if !isSound(s) || bit != 0 && bit != 1 {
		return impl.Scan{}, impl.VerdictBad
	}
	if s.Run == 5 && bit == s.Level {
		return impl.Scan{}, impl.VerdictStuff
	}
	if s.Run == 5 {
		s.Run, s.Level = 1, bit
		return s, impl.VerdictMore
	}
	code := slowCode(s, bit)
	if !goesOn(code) {
		return impl.Scan{}, code
	}
	next := s
	next.F = slowKept(s, bit)
	if bit != s.Level {
		next.Run = 0
	}
	next.Run, next.Level = next.Run+1, bit
	if s.Field >= impl.FieldCrcDel {
		next.Run, next.Level = 0, 0
	}
	if s.Field <= impl.FieldData {
		// One step of a long division, with the bit put above the register.
		next.Crc = s.Crc*2 ^ bit*32768
		if next.Crc&32768 != 0 {
			next.Crc ^= 32768 + 17817
		}
	}
	if s.Field == impl.FieldCrc {
		next.Acc = (2*s.Acc + bit) % 32768
	}
	next.Left--
	if next.Left == 0 {
		next.Field = fieldBehindField(s.Field, next.F)
		next.Left = sizeOf(next.Field, next.F)
		if next.Field == impl.FieldData {
			next.F.Data = nil
		}
	}
	return next, code
}

func expectScan(t *testing.T, s impl.Scan, bit int) {
	t.Helper()
	want, code := slowScan(s, bit)
	if got, c := impl.ScanBit(s, bit); c != code || !sameScans(got, want) {
		t.Errorf("ScanBit(%+v, %d) = %+v, %d, want %+v, %d", s, bit, got, c, want, code)
	}
}

func TestScansThatNoFrameLeadsTo(t *testing.T) {
	d := dice(61)
	for range 60000 {
		s := d.scan()
		if !isSound(s) {
			t.Fatalf("the dice made %+v", s)
		}
		for bit := range 2 {
			expectScan(t, s, bit)
		}
	}
}

// Where one goes on from such a Scan, each answer is sound again.
func TestSoundScansStaySound(t *testing.T) {
	d := dice(62)
	for range 3000 {
		s, code := d.scan(), impl.VerdictMore
		for goesOn(code) {
			if !isSound(s) {
				t.Fatalf("not sound: %+v", s)
			}
			s, code = impl.ScanBit(s, d.roll(2))
		}
		if code == impl.VerdictBad {
			t.Errorf("a sound scan ends in VerdictBad")
		}
	}
}

func TestScansByHand(t *testing.T) {
	full := bytes.Repeat([]uint8{0xff}, 8)
	for _, c := range []struct {
		s    impl.Scan
		bit  int
		want impl.Scan
		code int
	}{
		{impl.Scan{Field: impl.FieldIdA, Left: 11, Run: 1, F: impl.Frame{Id: 0x1fffffff}}, 0,
			impl.Scan{Field: impl.FieldIdA, Left: 10, Run: 2, F: impl.Frame{Id: 0x1ffffffe}}, impl.VerdictMore},
		{impl.Scan{Field: impl.FieldIde, Left: 1, Run: 1, Level: 1, F: impl.Frame{Rtr: true}}, 1,
			impl.Scan{Field: impl.FieldIdB, Left: 18, Run: 2, Level: 1, Crc: 17817, F: impl.Frame{Ext: true}}, impl.VerdictMore},
		{impl.Scan{Field: impl.FieldIde, Left: 1, Run: 1, Level: 1, F: impl.Frame{Ext: true, Rtr: true}}, 0,
			impl.Scan{Field: impl.FieldRes, Left: 1, Run: 1, F: impl.Frame{Rtr: true}}, impl.VerdictMore},
		{impl.Scan{Field: impl.FieldIdB, Left: 1, Run: 4, F: impl.Frame{Rtr: true}}, 0,
			impl.Scan{Field: impl.FieldRtrX, Left: 1, Run: 5, F: impl.Frame{Rtr: true}}, impl.VerdictMore},
		{impl.Scan{Field: impl.FieldRtrX, Left: 1, Run: 4, F: impl.Frame{Rtr: true}}, 0,
			impl.Scan{Field: impl.FieldRes, Left: 1, Run: 5}, impl.VerdictMore},
		{impl.Scan{Field: impl.FieldRtrX, Left: 1, Run: 1, F: impl.Frame{Ext: true}}, 0,
			impl.Scan{Field: impl.FieldRes, Left: 2, Run: 2, F: impl.Frame{Ext: true}}, impl.VerdictMore},
		{impl.Scan{Field: impl.FieldDlc, Left: 1, Run: 1, F: impl.Frame{Dlc: 15, Data: full}}, 0,
			impl.Scan{Field: impl.FieldData, Left: 64, Run: 2, F: impl.Frame{Dlc: 14}}, impl.VerdictMore},
		{impl.Scan{Field: impl.FieldDlc, Left: 1, Run: 1, F: impl.Frame{Dlc: 8, Data: full}}, 0,
			impl.Scan{Field: impl.FieldCrc, Left: 15, Run: 2, F: impl.Frame{Data: full}}, impl.VerdictMore},
		{impl.Scan{Field: impl.FieldDlc, Left: 1, Run: 1, F: impl.Frame{Rtr: true, Dlc: 1, Data: full}}, 0,
			impl.Scan{Field: impl.FieldCrc, Left: 15, Run: 2, F: impl.Frame{Rtr: true, Dlc: 2, Data: full}}, impl.VerdictMore},
		{impl.Scan{Field: impl.FieldData, Left: 7, Run: 1, F: impl.Frame{Dlc: 1, Data: []uint8{0xc1}}}, 0,
			impl.Scan{Field: impl.FieldData, Left: 6, Run: 2, F: impl.Frame{Dlc: 1, Data: []uint8{0x82}}}, impl.VerdictMore},
		{impl.Scan{Field: impl.FieldData, Left: 8, Run: 1, F: impl.Frame{Dlc: 2, Data: []uint8{7}}}, 0,
			impl.Scan{Field: impl.FieldData, Left: 7, Run: 2, F: impl.Frame{Dlc: 2, Data: []uint8{7, 0}}}, impl.VerdictMore},
		{impl.Scan{Field: impl.FieldData, Left: 1, Run: 1, F: impl.Frame{Dlc: 15, Data: full}}, 0,
			impl.Scan{Field: impl.FieldCrc, Left: 15, Run: 2, F: impl.Frame{Dlc: 15, Data: []uint8{255, 255, 255, 255, 255, 255, 255, 254}}}, impl.VerdictMore},
		{impl.Scan{Field: impl.FieldCrc, Left: 3, Run: 2, Level: 1, Crc: 9, Acc: 32767}, 0,
			impl.Scan{Field: impl.FieldCrc, Left: 2, Run: 1, Crc: 9, Acc: 32766}, impl.VerdictMore},
		{impl.Scan{Field: impl.FieldCrcDel, Left: 1, Run: 4, Level: 1, Crc: 9, Acc: 8}, 1,
			impl.Scan{Field: impl.FieldAck, Left: 1, Crc: 9, Acc: 8}, impl.VerdictMore},
		{impl.Scan{Field: impl.FieldAckDel, Left: 1, Crc: 32767, Acc: 32767}, 1,
			impl.Scan{Field: impl.FieldEof, Left: 7, Crc: 32767, Acc: 32767}, impl.VerdictMore},
		{impl.Scan{Field: impl.FieldEof, Left: 2, Crc: 1, F: impl.Frame{Id: 4000, Dlc: 3}}, 1,
			impl.Scan{Field: impl.FieldEof, Left: 1, Crc: 1, F: impl.Frame{Id: 4000, Dlc: 3}}, impl.VerdictValid},
		{impl.Scan{Field: impl.FieldEof, Left: 2}, 0, impl.Scan{}, impl.VerdictForm},
		{impl.Scan{Field: impl.FieldEof, Left: 1, F: impl.Frame{Id: 9}}, 1, impl.Scan{}, impl.VerdictWhole},
		{impl.Scan{Field: impl.FieldEof, Left: 1, F: impl.Frame{Id: 9}}, 0, impl.Scan{}, impl.VerdictOver},
		{impl.Scan{Field: impl.FieldAckDel, Left: 1, Acc: 1, F: impl.Frame{Id: 9}}, 1, impl.Scan{}, impl.VerdictCrc},
		{impl.Scan{Field: impl.FieldAckDel, Left: 1, Acc: 1, F: impl.Frame{Id: 9}}, 0, impl.Scan{}, impl.VerdictForm},
	} {
		if got, code := impl.ScanBit(c.s, c.bit); code != c.code || !sameScans(got, c.want) {
			t.Errorf("ScanBit(%+v, %d) = %+v, %d, want %+v, %d", c.s, c.bit, got, code, c.want, c.code)
		}
	}
}

// spoiled are copies of a sound Scan with one thing changed; most, but not all, are not sound.
func spoiled(s impl.Scan) []impl.Scan {
	var out []impl.Scan
	change := func(act func(*impl.Scan)) {
		c := s
		c.F.Data = bytes.Clone(s.F.Data)
		act(&c)
		out = append(out, c)
	}
	far := []int{math.MinInt, -1, 0, math.MaxInt, 1 << 32}
	for _, n := range append(far, 1, 9, 10, 11, 14, 15, 16) {
		change(func(c *impl.Scan) { c.Field = n })
	}
	for _, n := range append(far, 1, s.Left-1, s.Left+1, sizeOf(s.Field, s.F), sizeOf(s.Field, s.F)+1) {
		change(func(c *impl.Scan) { c.Left = n })
	}
	for _, n := range append(far, 1, 4, 5, 6) {
		change(func(c *impl.Scan) { c.Run = n })
		change(func(c *impl.Scan) { c.Run, c.Level = n, 1 })
	}
	for _, n := range append(far, 1, 2, '0', '1') {
		change(func(c *impl.Scan) { c.Level = n })
	}
	for _, n := range append(far, 32767, 32768, 65536) {
		change(func(c *impl.Scan) { c.Crc = n })
		change(func(c *impl.Scan) { c.Acc = n })
	}
	for _, n := range []uint32{0, 2048, 1<<29 - 1, 1 << 29, math.MaxUint32} {
		change(func(c *impl.Scan) { c.F.Id = n })
	}
	for _, n := range append(far, 1, 8, 15, 16) {
		change(func(c *impl.Scan) { c.F.Dlc = n })
	}
	for _, n := range []int{0, 1, 2, 7, 8, 9, 100} {
		change(func(c *impl.Scan) { c.F.Data = make([]uint8, n) })
	}
	change(func(c *impl.Scan) { c.F.Rtr = !c.F.Rtr })
	change(func(c *impl.Scan) { c.F.Ext = !c.F.Ext })
	return out
}

func TestEachThingThatMakesAScanUnsound(t *testing.T) {
	d := dice(63)
	for range 400 {
		for _, s := range spoiled(d.scan()) {
			for bit := range 2 {
				expectScan(t, s, bit)
			}
		}
	}
	for _, s := range spoiled(startScan()) {
		expectScan(t, s, 0)
	}
	expectScan(t, impl.Scan{}, 0)
	expectScan(t, impl.Scan{}, 1)
}

func TestScanBitOfOtherBits(t *testing.T) {
	d := dice(64)
	for range 300 {
		s := d.scan()
		for _, bit := range []int{-1, 2, 3, '0', '1', 256, 257, 1 << 32, math.MinInt, math.MaxInt} {
			if got, code := impl.ScanBit(s, bit); code != impl.VerdictBad || !sameScans(got, impl.Scan{}) {
				t.Errorf("ScanBit(%+v, %d) = %+v, %d", s, bit, got, code)
			}
		}
	}
}
