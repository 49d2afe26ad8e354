package impl

import "bytes"

// Limits of the bit texts that this layer takes.
const (
	MaxPlain = 2000
	MaxLine  = 4000
)

// The fields of a frame, in the order in which they may come on the wire.
const (
	FieldNone = iota
	FieldSof
	FieldIdA
	FieldRtr
	FieldIde
	FieldIdB
	FieldRtrX
	FieldRes
	FieldDlc
	FieldData
	FieldCrc
	FieldCrcDel
	FieldAck
	FieldAckDel
	FieldEof
	FieldEnd
)

// What Judge says of the levels heard so far.
const (
	VerdictMore = iota
	VerdictValid
	VerdictWhole
	VerdictStuff
	VerdictForm
	VerdictCrc
	VerdictOver
	VerdictPast
	VerdictBad
)

// Sizes of fields, in bits, and what follows from them.
const (
	idABits  = 11
	idBBits  = 18
	dlcBits  = 4
	byteBits = 8
	crcBits  = 15
	eofBits  = 7

	idBaseMax = 1<<idABits - 1
	idExtMax  = 1<<(idABits+idBBits) - 1
	maxDlc    = 1<<dlcBits - 1
	maxData   = 8

	crcTop  = 1 << (crcBits - 1)
	crcMask = 1<<crcBits - 1
	crcPoly = 0x4599

	stuffRun = 5
)

// tail is what a sender puts behind the stuffed part: the delimiters, the
// acknowledge bit (left recessive for a hearer to fill) and the end of frame.
const tail = "1" + "1" + "1" + "1111111"

// The flags of a frame's head; headFlags counts them.
const (
	headExt = iota
	headRtr
	headFlags
)

type Frame struct {
	Ext  bool // false: 11 bits of identifier, true: 29
	Id   uint32
	Rtr  bool // a remote frame: asks, carries no data
	Dlc  int  // data length code, 0..15
	Data []uint8
}

type Verdict struct {
	Code  int
	Next  int
	Due   bool
	CrcOk bool
}

type head [headFlags]bool

func headOf(f Frame) head {
	return head{headExt: f.Ext, headRtr: f.Rtr}
}

// sameFrame exists because a Frame holds a list and so has no == of its own.
func sameFrame(a, b Frame) bool {
	return headOf(a) == headOf(b) && a.Id == b.Id && a.Dlc == b.Dlc && bytes.Equal(a.Data, b.Data)
}

// ValidFrame holds f against what the wire can carry of it: a frame is valid
// if nothing of it had to be bent.
func ValidFrame(f Frame) bool {
	return sameFrame(f, fitted(f))
}

// fitted answers the nearest valid frame: an identifier too wide for a base
// frame makes it extended, and what carries data is no remote frame. Data of
// the right length is shared with f, so the answer must not leave this package.
func fitted(f Frame) Frame {
	f.Ext = f.Ext || f.Id > idBaseMax
	f.Rtr = f.Rtr && len(f.Data) == 0
	f.Id = min(f.Id, idExtMax)
	f.Dlc = min(max(f.Dlc, 0), maxDlc)
	if want := dataLen(f); len(f.Data) != want {
		f.Data = make([]uint8, want)
	}
	return f
}

// dataLen is the number of bytes that the head of f announces: a remote frame
// names a length but carries nothing, and codes above 8 still mean 8 bytes.
func dataLen(f Frame) int {
	if f.Rtr {
		return 0
	}
	return min(f.Dlc, maxData)
}

func Body(f Frame) string {
	if !ValidFrame(f) {
		return ""
	}
	out := appendArb([]byte{'0'}, f)
	out = appendBits(out, 0, fieldSize(FieldRes, f))
	out = appendBits(out, uint32(f.Dlc), dlcBits)
	for _, octet := range f.Data {
		out = appendBits(out, uint32(octet), byteBits)
	}
	return string(out)
}

func Arb(f Frame) string {
	if !ValidFrame(f) {
		return ""
	}
	return string(appendArb(nil, f))
}

func appendArb(out []byte, f Frame) []byte {
	var rtr uint32
	if f.Rtr {
		rtr = 1
	}
	if !f.Ext {
		out = appendBits(out, f.Id, idABits)
		out = appendBits(out, rtr, 1)
		return append(out, '0')
	}
	out = appendBits(out, f.Id>>idBBits, idABits)
	out = append(out, '1', '1')
	out = appendBits(out, f.Id, idBBits)
	return appendBits(out, rtr, 1)
}

// appendBits takes the count lowest bits of value, the highest of them first.
func appendBits(out []byte, value uint32, count int) []byte {
	for i := count - 1; i >= 0; i-- {
		out = append(out, '0'+byte(value>>i&1))
	}
	return out
}

func isBitText(text string, longest int) bool {
	if len(text) > longest {
		return false
	}
	for _, letter := range text {
		if letter != '0' && letter != '1' {
			return false
		}
	}
	return true
}

func Crc15(bits string) int {
	if !isBitText(bits, MaxPlain) {
		return -1
	}
	register := 0
	for _, letter := range bits {
		register = crcStep(register, int(letter-'0'))
	}
	return register
}

func crcStep(register, bit int) int {
	high := register / crcTop
	register = register << 1 & crcMask
	if bit != high {
		register ^= crcPoly
	}
	return register
}

// run is the row of equal letters heard last. The zero run has a letter that
// no bit text holds, so that it goes on with neither level.
type run struct {
	letter rune
	length int
}

func (r *run) hear(letter rune) {
	if letter != r.letter {
		*r = run{letter: letter}
	}
	r.length++
}

func (r *run) full() bool {
	return r.length == stuffRun
}

func opposite(letter rune) rune {
	return '0' + '1' - letter
}

func Stuff(bits string) string {
	if !isBitText(bits, MaxPlain) {
		return ""
	}
	out := make([]byte, 0, len(bits)+len(bits)/(stuffRun-1)+1)
	var last run
	for _, letter := range bits {
		out = append(out, byte(letter))
		last.hear(letter)
		if last.full() {
			out = append(out, byte(opposite(letter)))
			last.hear(opposite(letter))
		}
	}
	return string(out)
}

func Destuff(bits string) (string, int) {
	if !isBitText(bits, MaxLine) {
		return "", -2
	}
	out := make([]byte, 0, len(bits))
	var last run
	for i, letter := range bits {
		due := last.full()
		if due && letter == last.letter {
			return string(out), i
		}
		last.hear(letter)
		if !due {
			out = append(out, byte(letter))
		}
	}
	return string(out), -1
}

func Encode(f Frame) string {
	if !ValidFrame(f) {
		return ""
	}
	body := Body(f)
	sum := appendBits(nil, uint32(Crc15(body)), crcBits)
	return Stuff(body+string(sum)) + tail
}

// place is where a walk stands: the field of the next plain bit, and how many
// bits of that field have been taken.
type place struct {
	field int
	taken int
}

// walk is all that is known of a frame behind the bits walked so far.
type walk struct {
	at   place
	last run
	sum  int // of the plain bits ahead of FieldCrc
	crc  int // what FieldCrc says
	f    Frame
	code int
}

func walkOver(heard string) walk {
	w := walk{at: place{field: FieldSof}}
	if !isBitText(heard, MaxLine) {
		w.code = VerdictBad
		return w
	}
walking:
	for i, letter := range heard {
		w.code = w.take(letter)
		switch {
		case goesOn(w.code):
		case i+1 < len(heard):
			w.code = VerdictPast
			break walking
		default:
			break walking
		}
	}
	return w
}

func goesOn(code int) bool {
	return code == VerdictMore || code == VerdictValid
}

// due looks at FieldCrcDel too: the stuff bit behind the last bit of FieldCrc
// comes when that field is already the next one.
func (w *walk) due() bool {
	return w.at.field <= FieldCrcDel && w.last.full()
}

func (w *walk) crcOk() bool {
	return w.at.field > FieldCrc && w.crc == w.sum
}

func (w *walk) take(letter rune) int {
	due := w.due()
	if due && letter == w.last.letter {
		return VerdictStuff
	}
	w.last.hear(letter)
	if due {
		return VerdictMore
	}
	bit := int(letter - '0')
	code := w.plainCode(bit)
	w.keep(bit)
	w.advance()
	return code
}

// plainCode is asked before the bit is kept, as it looks at the place the bit
// has in its field.
func (w *walk) plainCode(bit int) int {
	switch w.at.field {
	case FieldSof:
		return formUnless(bit == 0)
	case FieldCrcDel:
		return formUnless(bit == 1)
	case FieldAckDel:
		if bit == 1 && !w.crcOk() {
			return VerdictCrc
		}
		return formUnless(bit == 1)
	case FieldEof:
		return w.eofCode(bit)
	}
	return VerdictMore
}

func formUnless(good bool) int {
	if good {
		return VerdictMore
	}
	return VerdictForm
}

func (w *walk) eofCode(bit int) int {
	last := w.at == place{field: FieldEof, taken: eofBits - 1}
	lastButOne := w.at == place{field: FieldEof, taken: eofBits - 2}
	switch {
	case last && bit == 0:
		return VerdictOver
	case last:
		return VerdictWhole
	case lastButOne && bit == 1:
		return VerdictValid
	}
	return formUnless(bit == 1)
}

// keep takes FieldRtr for Rtr whatever kind of frame it is: in an extended one
// FieldRtrX comes later and has the last word.
func (w *walk) keep(bit int) {
	if w.at.field <= FieldData {
		w.sum = crcStep(w.sum, bit)
	}
	switch w.at.field {
	case FieldIdA, FieldIdB:
		w.f.Id = w.f.Id<<1 | uint32(bit)
	case FieldRtr, FieldRtrX:
		w.f.Rtr = bit == 1
	case FieldIde:
		w.f.Ext = bit == 1
	case FieldDlc:
		w.f.Dlc = w.f.Dlc<<1 | bit
	case FieldData:
		w.keepData(uint8(bit))
	case FieldCrc:
		w.crc = w.crc<<1 | bit
	}
}

func (w *walk) keepData(bit uint8) {
	if w.at.taken%byteBits == 0 {
		w.f.Data = append(w.f.Data, 0)
	}
	end := len(w.f.Data) - 1
	w.f.Data[end] = w.f.Data[end]<<1 | bit
}

func (w *walk) advance() {
	w.at.taken++
	if w.at.taken == fieldSize(w.at.field, w.f) {
		w.at = place{field: fieldAfter(w.at.field, w.f)}
	}
}

// fieldSize counts plain bits; f need be known only as far as the fields ahead
// of this one tell it.
func fieldSize(field int, f Frame) int {
	switch field {
	case FieldIdA:
		return idABits
	case FieldIdB:
		return idBBits
	case FieldRes:
		if f.Ext {
			return 2
		}
	case FieldDlc:
		return dlcBits
	case FieldData:
		return byteBits * dataLen(f)
	case FieldCrc:
		return crcBits
	case FieldEof:
		return eofBits
	}
	return 1
}

func fieldAfter(field int, f Frame) int {
	switch {
	case field == FieldIde && !f.Ext:
		return FieldRes
	case field == FieldDlc && dataLen(f) == 0:
		return FieldCrc
	}
	return field + 1
}

func Judge(heard string) Verdict {
	w := walkOver(heard)
	if !goesOn(w.code) {
		return Verdict{Code: w.code}
	}
	return Verdict{Code: w.code, Next: w.at.field, Due: w.due(), CrcOk: w.crcOk()}
}

func Decode(heard string) (Frame, int) {
	w := walkOver(heard)
	if w.code != VerdictValid && w.code != VerdictWhole {
		return Frame{}, w.code
	}
	return w.f, w.code
}
