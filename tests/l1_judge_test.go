package tests

import (
	"strings"
	"testing"

	"loop.example/s01647/impl"
)

// shape tells from the plain bits so far where FieldDlc begins and where FieldCrc begins and ends; a place not known yet lies far behind.
func shape(plain string) (dlc, crc, end int) {
	const far = 1 << 20
	if len(plain) < 14 {
		return far, far, far
	}
	dlc, rtr := 15, 12
	if plain[13] == '1' {
		dlc, rtr = 35, 32
	}
	if len(plain) < dlc+4 {
		return dlc, far, far
	}
	code := 0
	for _, letter := range plain[dlc : dlc+4] {
		code = 2*code + int(letter-'0')
	}
	if plain[rtr] == '1' {
		code = 0
	}
	crc = dlc + 4 + 8*min(code, 8)
	return dlc, crc, crc + 15
}

// fieldBehind is the field of the plain bit that comes next.
func fieldBehind(plain string) int {
	n := len(plain)
	dlc, crc, end := shape(plain)
	switch {
	case n == 0:
		return impl.FieldSof
	case n < 12:
		return impl.FieldIdA
	case n == 12:
		return impl.FieldRtr
	case n == 13:
		return impl.FieldIde
	case dlc == 35 && n < 32:
		return impl.FieldIdB
	case dlc == 35 && n == 32:
		return impl.FieldRtrX
	case n < dlc:
		return impl.FieldRes
	case n < dlc+4:
		return impl.FieldDlc
	case n < crc:
		return impl.FieldData
	case n < end:
		return impl.FieldCrc
	}
	return min(impl.FieldCrcDel+n-end, impl.FieldEof)
}

func sumHolds(plain string) bool {
	_, crc, end := shape(plain)
	return len(plain) >= end && plain[crc:end] == numberText(slowCrc(plain[:crc]), 15)
}

// codeOf is the code of one plain bit behind others.
func codeOf(plain string, bit byte) int {
	_, _, end := shape(plain)
	field := fieldBehind(plain)
	eof := len(plain) - end - 3
	switch {
	case field == impl.FieldSof && bit == '1':
		return impl.VerdictForm
	case field < impl.FieldCrcDel || field == impl.FieldAck:
		return impl.VerdictMore
	case field == impl.FieldEof && eof == 6 && bit == '0':
		return impl.VerdictOver
	case field == impl.FieldEof && eof == 6:
		return impl.VerdictWhole
	case bit == '0':
		return impl.VerdictForm
	case field == impl.FieldAckDel && !sumHolds(plain):
		return impl.VerdictCrc
	case field == impl.FieldEof && eof == 5:
		return impl.VerdictValid
	}
	return impl.VerdictMore
}

func dueBehind(heard, plain string) bool {
	_, _, end := shape(plain)
	return len(plain) <= end && (strings.HasSuffix(heard, "00000") || strings.HasSuffix(heard, "11111"))
}

// slowJudge says what Judge must say of a bit text, from the shape of the plain bits so far, worked out anew at each bit.
func slowJudge(heard string) impl.Verdict {
	plain, code := "", impl.VerdictMore
	for i := range len(heard) {
		if code != impl.VerdictMore && code != impl.VerdictValid {
			return impl.Verdict{Code: impl.VerdictPast}
		}
		switch {
		case !dueBehind(heard[:i], plain):
			code = codeOf(plain, heard[i])
			plain += heard[i : i+1]
		case heard[i] == heard[i-1]:
			code = impl.VerdictStuff
		default:
			code = impl.VerdictMore
		}
	}
	if code != impl.VerdictMore && code != impl.VerdictValid {
		return impl.Verdict{Code: code}
	}
	return impl.Verdict{Code: code, Next: fieldBehind(plain), Due: dueBehind(heard, plain), CrcOk: sumHolds(plain)}
}

func expectAsSlow(t *testing.T, heard string) {
	t.Helper()
	expectVerdict(t, heard, slowJudge(heard))
}

func TestJudgeOfEveryShortText(t *testing.T) {
	for text := range everyText(14) {
		expectAsSlow(t, text)
	}
}

func TestJudgeOfEveryBeginning(t *testing.T) {
	d := dice(8)
	for range 150 {
		image := withAck(impl.Encode(d.frame()), d.text(1)) + d.text(2)
		for n := range len(image) + 1 {
			expectAsSlow(t, image[:n])
		}
	}
}

func TestJudgeOfTurnedBits(t *testing.T) {
	d := dice(9)
	for range 120 {
		image := impl.Encode(d.frame())
		for i := range image {
			heard := turned(image, i)
			if d.roll(2) == 0 {
				heard = turned(heard, d.roll(len(heard)))
			}
			expectAsSlow(t, heard)
			expectAsSlow(t, heard[:i+1])
			expectAsSlow(t, heard[:i+d.roll(len(heard)-i)])
			expectAsSlow(t, heard[:len(heard)-8])
		}
	}
}

// body is a row of random bits, as long as the head that it happens to begin with asks for.
func (d *dice) body() string {
	body := "0" + d.text(38)
	if d.roll(2) == 0 {
		body = "0" + d.runs(38)
	}
	_, crc, _ := shape(body)
	return (body + d.runs(64))[:crc]
}

// A body of random bits is heard as some frame, with either level in FieldRtr of an extended frame and in FieldRes.
func TestJudgeOfRandomBodies(t *testing.T) {
	d := dice(10)
	for range 3000 {
		body := d.body()
		heard := heardOf(body, d.text(1))
		expectVerdict(t, heard, impl.Verdict{Code: impl.VerdictWhole})
		expectAsSlow(t, heard[:d.roll(len(heard))])
		f, code := impl.Decode(heard)
		if code != impl.VerdictWhole || !impl.ValidFrame(f) {
			t.Errorf("Decode(%q) = %+v, %d", heard, f, code)
		}
	}
}

func TestFixedBitsOfEitherLevel(t *testing.T) {
	for _, ends := range []string{"00", "01", "10", "11"} {
		for _, substitute := range []string{"0", "1"} {
			body := "0" + "10000000001" + substitute + "1" + "000000000000000011" + "0" + ends + "0001" + "11000011"
			want := impl.Frame{Ext: true, Id: 0x401<<18 + 3, Dlc: 1, Data: []uint8{0xc3}}
			if got, code := impl.Decode(heardOf(body, "0")); code != impl.VerdictWhole || !sameFrames(got, want) {
				t.Errorf("FieldRtr %s, FieldRes %s: %+v, %d", substitute, ends, got, code)
			}
		}
		body := "0" + "00000000111" + ends[:1] + "0" + ends[1:] + "1001"
		want := impl.Frame{Id: 7, Rtr: ends[0] == '1', Dlc: 9}
		if !want.Rtr {
			body += strings.Repeat("0", 64)
			want.Data = make([]uint8, 8)
		}
		if got, code := impl.Decode(heardOf(body, "0")); code != impl.VerdictWhole || !sameFrames(got, want) {
			t.Errorf("FieldRtr %s, FieldRes %s: %+v, %d", ends[:1], ends[1:], got, code)
		}
	}
}

// frameEndingIn finds a frame at whose FieldCrc a stuff bit is due behind the last bit, behind five bits of a level.
func frameEndingIn(t *testing.T, level string) (impl.Frame, string) {
	for id := range uint32(2048) {
		f := impl.Frame{Id: id, Dlc: 1, Data: []uint8{0x3c}}
		stuffed := strings.TrimSuffix(impl.Encode(f), "1111111111")
		other := string('0' + '1' - level[0])
		if ahead, ok := strings.CutSuffix(stuffed, other); ok && strings.HasSuffix(ahead, strings.Repeat(level, 5)) {
			return f, ahead
		}
	}
	t.Fatalf("no frame's sum ends in five %s", level)
	return impl.Frame{}, ""
}

func TestStuffBitBehindTheSum(t *testing.T) {
	for _, level := range []string{"0", "1"} {
		f, ahead := frameEndingIn(t, level)
		other := string('0' + '1' - level[0])
		expectVerdict(t, ahead[:len(ahead)-1], impl.Verdict{Next: impl.FieldCrc})
		expectVerdict(t, ahead, impl.Verdict{Next: impl.FieldCrcDel, Due: true, CrcOk: true})
		expectVerdict(t, ahead+level, impl.Verdict{Code: impl.VerdictStuff})
		expectVerdict(t, ahead+level+other, impl.Verdict{Code: impl.VerdictPast})
		expectVerdict(t, ahead+other, impl.Verdict{Next: impl.FieldCrcDel, CrcOk: true})
		expectVerdict(t, ahead+other+"0", impl.Verdict{Code: impl.VerdictForm})
		expectVerdict(t, ahead+other+"1", impl.Verdict{Next: impl.FieldAck, CrcOk: true})
		expectVerdict(t, ahead+other+"11", impl.Verdict{Next: impl.FieldAckDel, CrcOk: true})
		if got, code := impl.Decode(ahead + other + "1111111111"); code != impl.VerdictWhole || !sameFrames(got, f) {
			t.Errorf("Decode with a stuff bit at the very end = %+v, %d", got, code)
		}
	}
}

// Behind FieldCrcDel nothing is stuffed, however many equal bits come.
func TestNoStuffBitBehindTheDelimiter(t *testing.T) {
	for _, f := range edgeFrames() {
		image := impl.Encode(f)
		for n := len(image) - 9; n < len(image); n++ {
			if v := impl.Judge(image[:n]); v.Due || !v.CrcOk {
				t.Errorf("Judge of %d bits of the image of %+v = %+v", n, f, v)
			}
		}
	}
}

func TestTheEndOfAFrame(t *testing.T) {
	image := withAck(impl.Encode(impl.Frame{Id: 0x123, Dlc: 2, Data: []uint8{1, 2}}), "0")
	eof := len(image) - 7
	expectVerdict(t, image[:eof-3]+"0", impl.Verdict{Code: impl.VerdictForm})
	expectVerdict(t, image[:eof-1]+"0", impl.Verdict{Code: impl.VerdictForm})
	for i := range 6 {
		expectVerdict(t, image[:eof+i], impl.Verdict{Next: impl.FieldEof, CrcOk: true})
		expectVerdict(t, image[:eof+i]+"0", impl.Verdict{Code: impl.VerdictForm})
		expectVerdict(t, image[:eof+i]+"01", impl.Verdict{Code: impl.VerdictPast})
	}
	expectVerdict(t, image[:eof+6], impl.Verdict{Code: impl.VerdictValid, Next: impl.FieldEof, CrcOk: true})
	expectVerdict(t, image[:eof+6]+"0", impl.Verdict{Code: impl.VerdictOver})
	expectVerdict(t, image[:eof+6]+"01", impl.Verdict{Code: impl.VerdictPast})
	expectVerdict(t, image, impl.Verdict{Code: impl.VerdictWhole})
	expectVerdict(t, image+"1", impl.Verdict{Code: impl.VerdictPast})
	expectVerdict(t, image+"0", impl.Verdict{Code: impl.VerdictPast})
	for _, heard := range []string{image[:eof+6] + "0", image + "1", image[:eof] + "0", image[:eof+5]} {
		if got, _ := impl.Decode(heard); !sameFrames(got, impl.Frame{}) {
			t.Errorf("Decode(%q) = %+v, want the zero Frame", heard, got)
		}
	}
}

func TestPastAgainstBad(t *testing.T) {
	image := impl.Encode(impl.Frame{Id: 5})
	past, bad := impl.Verdict{Code: impl.VerdictPast}, impl.Verdict{Code: impl.VerdictBad}
	ones := strings.Repeat("1", impl.MaxLine)
	expectVerdict(t, ones, past)
	expectVerdict(t, ones+"1", bad)
	expectVerdict(t, (image + ones)[:impl.MaxLine], past)
	expectVerdict(t, (image + ones)[:impl.MaxLine+1], bad)
	expectVerdict(t, ones[1:]+"x", bad)
	expectVerdict(t, "11", past)
	expectVerdict(t, "1x", bad)
	expectVerdict(t, image+"x", bad)
	for _, text := range wrongTexts() {
		for _, heard := range []string{text, image + text, text + image, image[:20] + text} {
			expectVerdict(t, heard, bad)
			if got, code := impl.Decode(heard); code != impl.VerdictBad || !sameFrames(got, impl.Frame{}) {
				t.Errorf("Decode(%q) = %+v, %d", heard, got, code)
			}
		}
	}
	expectVerdict(t, "", impl.Verdict{Next: impl.FieldSof})
	if got, code := impl.Decode(""); code != impl.VerdictMore || !sameFrames(got, impl.Frame{}) {
		t.Errorf("Decode of nothing = %+v, %d", got, code)
	}
}

func TestNumbersOfFieldsAndVerdicts(t *testing.T) {
	fields := []int{impl.FieldNone, impl.FieldSof, impl.FieldIdA, impl.FieldRtr, impl.FieldIde, impl.FieldIdB, impl.FieldRtrX, impl.FieldRes, impl.FieldDlc, impl.FieldData, impl.FieldCrc, impl.FieldCrcDel, impl.FieldAck, impl.FieldAckDel, impl.FieldEof, impl.FieldEnd}
	verdicts := []int{impl.VerdictMore, impl.VerdictValid, impl.VerdictWhole, impl.VerdictStuff, impl.VerdictForm, impl.VerdictCrc, impl.VerdictOver, impl.VerdictPast, impl.VerdictBad}
	for _, list := range [][]int{fields, verdicts} {
		for want, got := range list {
			if got != want {
				t.Errorf("number %d of %v is %d", want, list, got)
			}
		}
	}
	if impl.MaxPlain != 2000 || impl.MaxLine != 4000 {
		t.Error("MaxPlain and MaxLine")
	}
}
