package impl

import (
	"math/bits"
	"strings"
)

const MaxVarint = 4611686018427387903
const MaxData = 200
const MaxFrames = 40
const MaxPayload = 1500
const FramePadding = 0
const FramePing = 1
const FrameAck = 2
const FrameReset = 4
const FrameStop = 5
const FrameCrypto = 6
const FrameToken = 7
const FrameStream = 8
const FrameMaxData = 16
const FrameMaxStream = 17
const FrameNewId = 24
const FrameChallenge = 26
const FrameResponse = 27
const FrameClose = 28
const FrameDatagram = 48
const ReadOk = 0
const ReadShort = 1
const ReadKind = 2
const ReadForm = 3
const ReadMany = 4

// Bits that stand in a frame's kind where it is told in bytes.
const streamFin = 1
const streamSized = 2
const streamOffset = 4
const datagramSized = 1

const mostAckRanges = 20
const mostNewId = 20
const challengeSize = 8
const mostByte = 255

type Range struct {
	From int
	To   int
}

type Frame struct {
	Kind   int
	A      int
	B      int
	C      int
	Fin    bool
	Data   string
	Ranges []Range
}

func VarintBytes(n int) (string, bool) {
	if _, ok := VarintSize(n); !ok {
		return "", false
	}
	return string(appendVarint(nil, n)), true
}

func TakeVarint(s string) (int, int) {
	if len(s) == 0 {
		return 0, 0
	}
	size := 1 << (s[0] >> 6)
	if len(s) < size {
		return 0, 0
	}
	n := int(s[0] & 63)
	for i := 1; i < size; i++ {
		n = n<<8 | int(s[i])
	}
	return n, size
}

func VarintSize(n int) (int, bool) {
	switch {
	case n < 0 || n > MaxVarint:
		return 0, false
	case n < 1<<6:
		return 1, true
	case n < 1<<14:
		return 2, true
	case n < 1<<30:
		return 4, true
	}
	return 8, true
}

func GoodFrame(f Frame) bool {
	count, known := numbersOf(f.Kind)
	if !known || !goodNumbers(f, count) || !goodLength(f, len(f.Data)) {
		return false
	}
	if f.Fin && f.Kind != FrameStream {
		return false
	}
	if f.Kind == FrameAck {
		return len(f.Ranges) > 0 && len(f.Ranges) <= mostAckRanges && fallingRanges(f.Ranges)
	}
	if f.Kind == FrameNewId && (f.B > f.A || f.C > mostByte) {
		return false
	}
	return len(f.Ranges) == 0
}

func FrameBytes(f Frame) (string, bool) {
	if !GoodFrame(f) {
		return "", false
	}
	return string(appendFrame(nil, f)), true
}

func ReadFrame(s string) (Frame, int, int) {
	c := &cursor{text: s}
	f, code := c.tryFrame()
	if code != ReadOk {
		return Frame{}, 0, code
	}
	return f, c.at, ReadOk
}

func FramesBytes(l []Frame) (string, bool) {
	if len(l) > MaxFrames {
		return "", false
	}
	var b []byte
	for _, f := range l {
		if !GoodFrame(f) {
			return "", false
		}
		b = appendFrame(b, f)
	}
	if len(b) > MaxPayload {
		return "", false
	}
	return string(b), true
}

func ReadFrames(s string) ([]Frame, int) {
	if len(s) > MaxPayload {
		return nil, ReadMany
	}
	var l []Frame
	for at := 0; at < len(s); {
		f, size, code := ReadFrame(s[at:])
		if code != ReadOk {
			return nil, code
		}
		// Only a whole frame counts, so a fault within the one too many is met ahead of it.
		if len(l) == MaxFrames {
			return nil, ReadMany
		}
		l = append(l, f)
		at += size
	}
	return l, ReadOk
}

// numbersOf tells how many of A, B and C a kind of frame names.
func numbersOf(kind int) (int, bool) {
	switch kind {
	case FramePadding, FramePing, FrameToken, FrameChallenge, FrameResponse, FrameDatagram:
		return 0, true
	case FrameAck, FrameCrypto, FrameMaxData:
		return 1, true
	case FrameStop, FrameStream, FrameMaxStream, FrameClose:
		return 2, true
	case FrameReset, FrameNewId:
		return 3, true
	}
	return 0, false
}

func goodNumbers(f Frame, count int) bool {
	for i, n := range [3]int{f.A, f.B, f.C} {
		if n < 0 || n > MaxVarint {
			return false
		}
		if i >= count && n != 0 {
			return false
		}
	}
	return true
}

// goodLength tells whether a frame of this kind and these numbers may have n bytes of Data.
// It is asked of a length alone, so that reading need not have the bytes to see the fault.
func goodLength(f Frame, n int) bool {
	switch f.Kind {
	case FrameCrypto:
		return n <= MaxData && f.A+n <= MaxVarint
	case FrameStream:
		return n <= MaxData && f.B+n <= MaxVarint
	case FrameToken:
		return n >= 1 && n <= MaxData
	case FrameNewId:
		return n >= 1 && n <= mostNewId
	case FrameChallenge, FrameResponse:
		return n == challengeSize
	case FrameClose, FrameDatagram:
		return n <= MaxData
	}
	return n == 0
}

// fallingRanges tells whether each range is one, and at least one number lies between each and the next.
func fallingRanges(l []Range) bool {
	for i, r := range l {
		if r.From < 0 || r.From > r.To || r.To > MaxVarint {
			return false
		}
		if i > 0 && r.To > l[i-1].From-2 {
			return false
		}
	}
	return true
}

func appendVarint(b []byte, n int) []byte {
	size, _ := VarintSize(n)
	first := len(b)
	for i := size - 1; i >= 0; i-- {
		b = append(b, byte(n>>(8*i)))
	}
	b[first] |= byte(bits.TrailingZeros(uint(size)) << 6)
	return b
}

func appendNumbers(b []byte, numbers ...int) []byte {
	for _, n := range numbers {
		b = appendVarint(b, n)
	}
	return b
}

func appendSized(b []byte, data string) []byte {
	return append(appendVarint(b, len(data)), data...)
}

// appendFrame puts a good frame's bytes behind b.
func appendFrame(b []byte, f Frame) []byte {
	b = appendVarint(b, toldKind(f))
	switch f.Kind {
	case FrameAck:
		return appendAck(b, f)
	case FrameReset:
		return appendNumbers(b, f.A, f.B, f.C)
	case FrameStop, FrameMaxStream:
		return appendNumbers(b, f.A, f.B)
	case FrameMaxData:
		return appendNumbers(b, f.A)
	case FrameCrypto:
		return appendSized(appendNumbers(b, f.A), f.Data)
	case FrameToken, FrameDatagram:
		return appendSized(b, f.Data)
	case FrameStream:
		return appendStream(b, f)
	case FrameNewId:
		b = append(appendNumbers(b, f.A, f.B), byte(len(f.Data)))
		return append(append(b, f.Data...), byte(f.C))
	case FrameChallenge, FrameResponse:
		return append(b, f.Data...)
	case FrameClose:
		return appendSized(appendNumbers(b, f.A, f.B), f.Data)
	}
	return b
}

// toldKind is the kind as bytes have it, with its bits.
func toldKind(f Frame) int {
	switch f.Kind {
	case FrameDatagram:
		return FrameDatagram | datagramSized
	case FrameStream:
		kind := FrameStream | streamSized
		if f.B != 0 {
			kind |= streamOffset
		}
		if f.Fin {
			kind |= streamFin
		}
		return kind
	}
	return f.Kind
}

func appendAck(b []byte, f Frame) []byte {
	first := f.Ranges[0]
	b = appendNumbers(b, first.To, f.A, len(f.Ranges)-1, first.To-first.From)
	ahead := first.From
	for _, r := range f.Ranges[1:] {
		b = appendNumbers(b, ahead-r.To-2, r.To-r.From)
		ahead = r.From
	}
	return b
}

func appendStream(b []byte, f Frame) []byte {
	b = appendNumbers(b, f.A)
	if f.B != 0 {
		b = appendNumbers(b, f.B)
	}
	return appendSized(b, f.Data)
}

// readFault is what reading gives up with: one of the codes from ReadShort on.
type readFault int

// cursor goes through a text from its front; told is the kind of the frame there, with its bits.
type cursor struct {
	text string
	at   int
	told int
}

// frameReader says which method reads what stands behind a kind.
type frameReader struct {
	kind int
	read func(*cursor, *Frame)
}

func readerOf(kind int) (func(*cursor, *Frame), bool) {
	table := [...]frameReader{
		{FramePadding, (*cursor).readNumbers},
		{FramePing, (*cursor).readNumbers},
		{FrameAck, (*cursor).readAck},
		{FrameReset, (*cursor).readNumbers},
		{FrameStop, (*cursor).readNumbers},
		{FrameCrypto, (*cursor).readSized},
		{FrameToken, (*cursor).readSized},
		{FrameStream, (*cursor).readStream},
		{FrameMaxData, (*cursor).readNumbers},
		{FrameMaxStream, (*cursor).readNumbers},
		{FrameNewId, (*cursor).readNewId},
		{FrameChallenge, (*cursor).readFixed},
		{FrameResponse, (*cursor).readFixed},
		{FrameClose, (*cursor).readSized},
		{FrameDatagram, (*cursor).readDatagram},
	}
	for _, row := range table {
		if row.kind == kind {
			return row.read, true
		}
	}
	return nil, false
}

// tryFrame reads a frame; what gave up on the way becomes the code.
func (c *cursor) tryFrame() (f Frame, code int) {
	defer func() {
		if fault, ok := recover().(readFault); ok {
			code = int(fault)
		}
	}()
	return c.frame(), ReadOk
}

func (c *cursor) frame() Frame {
	c.told = c.number()
	f := Frame{Kind: plainKind(c.told)}
	read, known := readerOf(f.Kind)
	if !known {
		panic(readFault(ReadKind))
	}
	read(c, &f)
	return f
}

// plainKind is a told kind without the bits that streams and datagrams have in it.
func plainKind(told int) int {
	switch {
	case told >= FrameStream && told <= FrameStream|streamOffset|streamSized|streamFin:
		return FrameStream
	case told == FrameDatagram|datagramSized:
		return FrameDatagram
	}
	return told
}

func (c *cursor) number() int {
	n, size := TakeVarint(c.text[c.at:])
	if size == 0 {
		panic(readFault(ReadShort))
	}
	c.at += size
	return n
}

func (c *cursor) numberUpTo(most int) int {
	n := c.number()
	if n > most {
		panic(readFault(ReadForm))
	}
	return n
}

// take copies the next n bytes, as answers share no memory with what is read.
func (c *cursor) take(n int) string {
	if n > len(c.text)-c.at {
		panic(readFault(ReadShort))
	}
	c.at += n
	return strings.Clone(c.text[c.at-n : c.at])
}

// takeData takes n bytes as the frame's Data, where it may have so many.
func (c *cursor) takeData(f *Frame, n int) {
	if !goodLength(*f, n) {
		panic(readFault(ReadForm))
	}
	f.Data = c.take(n)
}

// takeToldData takes Data with its length ahead, or, if that is not told, all up to the end.
func (c *cursor) takeToldData(f *Frame, sized bool) {
	if sized {
		c.takeData(f, c.number())
		return
	}
	c.takeData(f, len(c.text)-c.at)
}

func (c *cursor) readNumbers(f *Frame) {
	count, _ := numbersOf(f.Kind)
	for _, place := range []*int{&f.A, &f.B, &f.C}[:count] {
		*place = c.number()
	}
}

func (c *cursor) readSized(f *Frame) {
	c.readNumbers(f)
	c.takeToldData(f, true)
}

func (c *cursor) readFixed(f *Frame) {
	c.takeData(f, challengeSize)
}

func (c *cursor) readAck(f *Frame) {
	to := c.number()
	f.A = c.number()
	more := c.numberUpTo(mostAckRanges - 1)
	from := to - c.numberUpTo(to)
	f.Ranges = append(f.Ranges, Range{From: from, To: to})
	for range more {
		to = from - 2 - c.numberUpTo(from-2)
		from = to - c.numberUpTo(to)
		f.Ranges = append(f.Ranges, Range{From: from, To: to})
	}
}

func (c *cursor) readStream(f *Frame) {
	f.A = c.number()
	if c.told&streamOffset != 0 {
		f.B = c.number()
	}
	f.Fin = c.told&streamFin != 0
	c.takeToldData(f, c.told&streamSized != 0)
}

func (c *cursor) readNewId(f *Frame) {
	f.A = c.number()
	f.B = c.numberUpTo(f.A)
	c.takeData(f, int(c.take(1)[0]))
	f.C = int(c.take(1)[0])
}

func (c *cursor) readDatagram(f *Frame) {
	c.takeToldData(f, c.told&datagramSized != 0)
}
