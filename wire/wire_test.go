package wire

import (
	"bytes"
	"math"
	"testing"

	"mosaic/api"
)

// source is a plain generator, so that every run sees the same scripts.
type source uint64

func (s *source) next() uint64 {
	*s ^= *s << 13
	*s ^= *s >> 7
	*s ^= *s << 17
	return uint64(*s)
}

func (s *source) below(n int) int { return int((s.next() >> 11) % uint64(n)) }

func (s *source) text(n int) []byte {
	b := make([]byte, n)
	for i := range b {
		b[i] = byte(s.next() >> 30)
	}
	return b
}

// odd are numbers that no length or place may be.
var odd = []int{-1, -2, -65536, math.MinInt, math.MinInt + 1, math.MaxInt, math.MaxInt - 1, math.MaxInt - 2, 1 << 62, 1 << 32}

// amount is mostly small, at times near a bound, at times odd.
func (s *source) amount(bound int) int {
	switch s.below(8) {
	case 0:
		return odd[s.below(len(odd))]
	case 1, 2, 3:
		return bound - 3 + s.below(6)
	default:
		return s.below(6)
	}
}

// readModel is the document's reader: bytes, a place, the first error.
type readModel struct {
	all   []byte
	place int
	err   api.Errno
}

func (m *readModel) run(n int) []byte {
	if m.err != api.OK {
		return nil
	}
	if n < 0 {
		m.err = api.ErrArg
		return nil
	}
	if n > len(m.all)-m.place {
		m.err = api.ErrShort
		return nil
	}
	m.place += n
	return m.all[m.place-n : m.place]
}

func (m *readModel) number(n int) uint64 {
	v := uint64(0)
	for _, x := range m.run(n) {
		v = 256*v + uint64(x)
	}
	return v
}

func (m *readModel) end() api.Errno {
	if m.err == api.OK && m.place < len(m.all) {
		return api.ErrTrail
	}
	return m.err
}

// stepReader makes one call of r and m, and says whether they answer the same.
func stepReader(s *source, r *Reader, m *readModel) bool {
	same := true
	switch s.below(5) {
	case 0:
		same = uint64(r.U8()) == m.number(1)
	case 1:
		same = uint64(r.U16()) == m.number(2)
	case 2:
		same = uint64(r.U32()) == m.number(4)
	case 3:
		n := s.amount(len(m.all) - m.place)
		b := r.Bytes(n)
		same = bytes.Equal(b, m.run(n))
		clear(b) // what was answered is the caller's own
		_ = append(b, 0xee, 0xee)
	case 4:
		same = r.End() == m.end()
	}
	return same && r.Left() == len(m.all)-m.place && r.Err() == m.err && r.End() == m.end()
}

// TestReaderScripts: P2.1 and P2.4, two readers at a time.
func TestReaderScripts(t *testing.T) {
	s := source(3)
	seen := map[api.Errno]int{}
	for range 20000 {
		given := [2][]byte{s.text(s.below(24)), s.text(s.below(24))}
		var models [2]*readModel
		var readers [2]*Reader
		for i, b := range given {
			models[i] = &readModel{all: bytes.Clone(b)}
			readers[i] = NewReader(b)
			clear(b)
		}
		for step := range 16 {
			i := s.below(2)
			if !stepReader(&s, readers[i], models[i]) {
				t.Fatalf("P2.1: reader of % x, step %d: Left %d, Err %d; want place %d, Err %d",
					models[i].all, step, readers[i].Left(), readers[i].Err(), models[i].place, models[i].err)
			}
		}
		seen[models[0].end()]++
	}
	for _, e := range []api.Errno{api.OK, api.ErrArg, api.ErrShort, api.ErrTrail} {
		if seen[e] == 0 {
			t.Errorf("no script ended with %d", e)
		}
	}
}

// writeModel is the document's writer: a limit, what was written, the first error.
type writeModel struct {
	limit int
	all   []byte
	err   api.Errno
}

func newWriteModel(limit int) *writeModel {
	if limit < 0 {
		limit = 0
	}
	if limit > 65575 {
		limit = 65575
	}
	return &writeModel{limit: limit}
}

func (m *writeModel) run(b ...byte) {
	if m.err != api.OK {
		return
	}
	if len(m.all)+len(b) > m.limit {
		m.err = api.ErrLong
		return
	}
	m.all = append(bytes.Clone(m.all), b...)
}

func (m *writeModel) put(at int, v uint64) {
	if m.err != api.OK {
		return
	}
	if at < 0 || at >= len(m.all) || at+1 >= len(m.all) {
		m.err = api.ErrArg
		return
	}
	m.all = bytes.Clone(m.all)
	m.all[at], m.all[at+1] = byte(v/256), byte(v%256)
}

// sameWriter says whether w tells what m does; it spoils the bytes that w told.
func sameWriter(w *Writer, m *writeModel) bool {
	b, e := w.Out()
	want := m.all
	if m.err != api.OK {
		want = nil
	}
	same := bytes.Equal(b, want) && e == m.err && w.Err() == m.err && w.Len() == len(m.all)
	clear(b)
	_ = append(b, 0xee, 0xee)
	return same
}

func stepWriter(s *source, w *Writer, m *writeModel) bool {
	v := s.next() >> 20 % (1 << 32)
	switch s.below(5) {
	case 0:
		w.U8(uint8(v))
		m.run(byte(v % 256))
	case 1:
		w.U16(uint16(v))
		m.run(byte(v/256%256), byte(v%256))
	case 2:
		w.U32(uint32(v))
		m.run(byte(v/(1<<24)%256), byte(v/(1<<16)%256), byte(v/256%256), byte(v%256))
	case 3:
		room := s.text(8 + s.below(4))
		given := room[:s.below(8)]
		was := bytes.Clone(room)
		w.Bytes(given)
		m.run(was[:len(given)]...)
		if !bytes.Equal(room, was) {
			return false
		}
		clear(room) // what was handed in is the caller's own
	case 4:
		at := s.amount(len(m.all))
		w.Put16(at, uint16(v))
		m.put(at, v%65536)
	}
	return sameWriter(w, m)
}

// TestWriterScripts: P2.1, P2.3 (Put16) and P2.4, two writers at a time.
func TestWriterScripts(t *testing.T) {
	s := source(5)
	seen := map[api.Errno]int{}
	for range 20000 {
		var models [2]*writeModel
		var writers [2]*Writer
		for i := range models {
			limit := s.below(40)
			if s.below(8) == 0 {
				limit = odd[s.below(len(odd))]
			}
			models[i], writers[i] = newWriteModel(limit), NewWriter(limit)
		}
		for step := range 16 {
			i := s.below(2)
			if !stepWriter(&s, writers[i], models[i]) {
				t.Fatalf("P2.1: writer of at most %d, step %d: Len %d, Err %d; want % x, %d",
					models[i].limit, step, writers[i].Len(), writers[i].Err(), models[i].all, models[i].err)
			}
		}
		seen[models[0].err]++
	}
	for _, e := range []api.Errno{api.OK, api.ErrArg, api.ErrLong} {
		if seen[e] == 0 {
			t.Errorf("no script ended with %d", e)
		}
	}
}

// TestLimits: P2.1, the limits that the document names, to the byte.
func TestLimits(t *testing.T) {
	for _, c := range []struct{ limit, takes int }{
		{math.MinInt, 0}, {-3, 0}, {-1, 0}, {0, 0}, {1, 1}, {2, 2}, {65574, 65574}, {65575, 65575},
		{65576, 65575}, {70000, 65575}, {math.MaxInt, 65575},
	} {
		w := NewWriter(c.limit)
		w.Bytes(make([]byte, c.takes))
		w.Bytes(nil)
		if w.Err() != api.OK || w.Len() != c.takes {
			t.Errorf("P2.1: limit %d: Len %d, Err %d", c.limit, w.Len(), w.Err())
		}
		w.U8(1)
		if w.Err() != api.ErrLong || w.Len() != c.takes {
			t.Errorf("P2.1: limit %d, a byte more: Len %d, Err %d", c.limit, w.Len(), w.Err())
		}
		w = NewWriter(c.limit)
		w.Bytes(make([]byte, c.takes+1))
		if w.Err() != api.ErrLong || w.Len() != 0 {
			t.Errorf("P2.1: limit %d, a run too long: Len %d, Err %d", c.limit, w.Len(), w.Err())
		}
	}
}

// TestTooLittleRoom: P2.1, a number that does not fit is not written in part, nor read in part.
func TestTooLittleRoom(t *testing.T) {
	for room := range 5 {
		for size, write := range map[int]func(*Writer){
			1: func(w *Writer) { w.U8(255) },
			2: func(w *Writer) { w.U16(65535) },
			4: func(w *Writer) { w.U32(1<<32 - 1) },
		} {
			w := NewWriter(7 + room)
			w.Bytes(make([]byte, 7))
			write(w)
			if fits := room >= size; fits != (w.Err() == api.OK) || w.Len() != 7 && !fits || w.Len() != 7+size && fits {
				t.Errorf("P2.1: %d bytes into %d: Len %d, Err %d", size, room, w.Len(), w.Err())
			}
		}
		for size, read := range map[int]func(*Reader) uint32{
			1: func(r *Reader) uint32 { return uint32(r.U8()) },
			2: func(r *Reader) uint32 { return uint32(r.U16()) },
			4: func(r *Reader) uint32 { return r.U32() },
		} {
			r := NewReader(bytes.Repeat([]byte{255}, room))
			v := read(r)
			fits := room >= size
			if fits != (r.Err() == api.OK) || fits != (v != 0) || r.Left() != room && !fits || r.Left() != room-size && fits {
				t.Errorf("P2.1: %d bytes of %d: %d, Left %d, Err %d", size, room, v, r.Left(), r.Err())
			}
		}
	}
}

// item is a number of size bytes, or a run.
type item struct {
	size int
	v    uint32
	b    []byte
}

func (x item) write(w *Writer) {
	switch x.size {
	case 1:
		w.U8(uint8(x.v))
	case 2:
		w.U16(uint16(x.v))
	case 4:
		w.U32(x.v)
	default:
		w.Bytes(x.b)
	}
}

func (x item) reads(r *Reader) bool {
	switch x.size {
	case 1:
		return r.U8() == uint8(x.v)
	case 2:
		return r.U16() == uint16(x.v)
	case 4:
		return r.U32() == x.v
	default:
		return bytes.Equal(r.Bytes(len(x.b)), x.b)
	}
}

func (x item) wide() int {
	if x.size == 0 {
		return len(x.b)
	}
	return x.size
}

func (s *source) items() []item {
	list := make([]item, s.below(12))
	for i := range list {
		list[i] = item{size: []int{0, 1, 2, 4}[s.below(4)], v: uint32(s.next() >> 16)}
		if list[i].size == 0 {
			list[i].b = s.text(s.below(9))
		}
	}
	return list
}

// TestThereAndBack: P2.2.
func TestThereAndBack(t *testing.T) {
	s := source(7)
	for range 5000 {
		list := s.items()
		w := NewWriter(api.MaxPacket)
		last, wide := -1, 0
		for i, x := range list {
			x.write(w)
			if wide += x.wide(); x.wide() > 0 {
				last = i
			}
		}
		out, e := w.Out()
		if e != api.OK || len(out) != wide || w.Len() != wide {
			t.Fatalf("P2.2: Out of %v = % x, %d", list, out, e)
		}
		r, more := NewReader(out), NewReader(append(bytes.Clone(out), 0))
		for i, x := range list {
			if !x.reads(r) || !x.reads(more) {
				t.Fatalf("P2.2: item %d of %v is not read", i, list)
			}
		}
		if r.End() != api.OK || r.Left() != 0 || more.End() != api.ErrTrail || more.Err() != api.OK || more.Left() != 1 {
			t.Fatalf("P2.2: End of %v = %d, and with a byte more %d", list, r.End(), more.End())
		}
		if wide > 0 {
			byteFewer(t, list, last, out[:wide-1])
		}
	}
}

// byteFewer: the last item that wants bytes is short, the ones ahead of it are read.
func byteFewer(t *testing.T, list []item, last int, out []byte) {
	t.Helper()
	r := NewReader(out)
	for i, x := range list[:last] {
		if !x.reads(r) || r.Err() != api.OK {
			t.Fatalf("P2.2: a byte fewer: item %d of %v is not read", i, list)
		}
	}
	left := r.Left()
	list[last].reads(r)
	if r.Err() != api.ErrShort || r.End() != api.ErrShort || r.Left() != left || left != list[last].wide()-1 {
		t.Fatalf("P2.2: a byte fewer: %v, Left %d, Err %d", list, r.Left(), r.Err())
	}
}

// TestNumbers: P2.3, every number of one and two bytes, and those of four by their halves.
func TestNumbers(t *testing.T) {
	for v := range 65536 {
		hi, lo := byte(v/256), byte(v%256)
		r := NewReader([]byte{lo, hi, lo, hi, lo, lo, hi})
		if a, b, c := r.U8(), r.U16(), r.U32(); a != lo || int(b) != v || uint64(c) != 65536*uint64(v)+uint64(lo)*256+uint64(hi) {
			t.Fatalf("P2.3: read %d, %d, %d for %d", a, b, c, v)
		}
		w := NewWriter(9)
		w.U16(uint16(v))
		w.U32(uint32(v) * 65537)
		w.U8(lo)
		w.Put16(1, uint16(v))
		if b, e := w.Out(); e != api.OK || !bytes.Equal(b, []byte{hi, hi, lo, lo, hi, lo, lo}) {
			t.Fatalf("P2.3: wrote % x, %d for %d", b, e, v)
		}
	}
}

// TestPut16: P2.3 and P2.1, every place of short texts, and places that are none.
func TestPut16(t *testing.T) {
	for size := range 8 {
		places := append([]int{}, odd...)
		for at := -3; at <= size+3; at++ {
			places = append(places, at)
		}
		for _, at := range places {
			was := bytes.Repeat([]byte{0x55}, size)
			w := NewWriter(20)
			w.Bytes(was)
			w.Put16(at, 0xabcd)
			b, e := w.Out()
			if at < 0 || at > size-2 {
				if e != api.ErrArg || len(b) != 0 || w.Len() != size {
					t.Errorf("P2.1: Put16(%d) of %d bytes: % x, %d", at, size, b, e)
				}
				continue
			}
			was[at], was[at+1] = 0xab, 0xcd
			if e != api.OK || !bytes.Equal(b, was) {
				t.Errorf("P2.3: Put16(%d) of %d bytes: % x, %d", at, size, b, e)
			}
		}
	}
}

// TestReaderStays: P2.4, whichever call made the first error, and whatever comes behind it.
func TestReaderStays(t *testing.T) {
	first := []struct {
		want api.Errno
		call func(*Reader)
	}{
		{api.ErrShort, func(r *Reader) { r.U32() }},
		{api.ErrShort, func(r *Reader) { r.Bytes(4) }},
		{api.ErrShort, func(r *Reader) { r.Bytes(math.MaxInt) }},
		{api.ErrArg, func(r *Reader) { r.Bytes(-1) }},
		{api.ErrArg, func(r *Reader) { r.Bytes(math.MinInt) }},
	}
	for i, f := range first {
		r := NewReader([]byte{1, 2, 3})
		f.call(r)
		for range 3 {
			if r.U8() != 0 || r.U16() != 0 || r.U32() != 0 || len(r.Bytes(1)) != 0 || len(r.Bytes(0)) != 0 {
				t.Errorf("P2.4: error %d: something is read behind it", i)
			}
			for _, g := range first {
				g.call(r)
			}
			if r.Err() != f.want || r.End() != f.want || r.Left() != 3 {
				t.Errorf("P2.4: error %d: Err %d, End %d, Left %d", i, r.Err(), r.End(), r.Left())
			}
		}
	}
}

// TestWriterStays: P2.4.
func TestWriterStays(t *testing.T) {
	first := []struct {
		want api.Errno
		call func(*Writer)
	}{
		{api.ErrLong, func(w *Writer) { w.U32(1) }},
		{api.ErrLong, func(w *Writer) { w.Bytes(make([]byte, 70000)) }},
		{api.ErrArg, func(w *Writer) { w.Put16(-1, 1) }},
		{api.ErrArg, func(w *Writer) { w.Put16(2, 1) }},
		{api.ErrArg, func(w *Writer) { w.Put16(math.MaxInt, 1) }},
	}
	for i, f := range first {
		w := NewWriter(6)
		w.Bytes([]byte{1, 2, 3})
		f.call(w)
		for range 3 {
			w.U8(1)
			w.U16(1)
			w.Bytes([]byte{1})
			w.Bytes(nil)
			w.Put16(0, 1)
			for _, g := range first {
				g.call(w)
			}
			if b, e := w.Out(); len(b) != 0 || e != f.want || w.Err() != f.want || w.Len() != 3 {
				t.Errorf("P2.4: error %d: Out % x, %d, Len %d", i, b, e, w.Len())
			}
		}
	}
}

// TestEndGoesOn: End and Out make no error, and may be asked at any time.
func TestEndGoesOn(t *testing.T) {
	r := NewReader([]byte{0, 0, 1, 0, 7})
	if r.End() != api.ErrTrail || r.U32() != 256 || len(r.Bytes(0)) != 0 || r.End() != api.ErrTrail || r.Err() != api.OK {
		t.Error("P2.1: the reader does not go on behind End")
	}
	if !bytes.Equal(r.Bytes(1), []byte{7}) || r.End() != api.OK || len(r.Bytes(0)) != 0 || r.Err() != api.OK {
		t.Error("P2.1: the last byte")
	}
	if len(r.Bytes(-1)) != 0 || r.Err() != api.ErrArg {
		t.Error("P2.1: a run of -1 bytes")
	}
	for _, b := range [][]byte{nil, {}} {
		r = NewReader(b)
		if r.End() != api.OK || r.Left() != 0 || len(r.Bytes(0)) != 0 || r.Err() != api.OK || r.U8() != 0 || r.Err() != api.ErrShort {
			t.Error("P2.1: a reader of nothing")
		}
	}
	w := NewWriter(3)
	if b, e := w.Out(); len(b) != 0 || e != api.OK || w.Len() != 0 {
		t.Error("P2.1: a writer of nothing")
	}
	w.U8(1)
	w.Out()
	w.U16(515)
	if b, e := w.Out(); e != api.OK || !bytes.Equal(b, []byte{1, 2, 3}) {
		t.Errorf("P2.1: Out = % x, %d", b, e)
	}
}

// TestMemory: what is handed in is neither changed nor kept, what is answered is new.
func TestMemory(t *testing.T) {
	room := []byte{1, 2, 3, 4, 5, 6}
	r := NewReader(room[:4])
	w := NewWriter(20)
	w.Bytes(room[:4])
	clear(room[:4])
	x := r.Bytes(2)
	x = append(x, 9, 9)
	clear(x[:2])
	if y := r.Bytes(2); !bytes.Equal(y, []byte{3, 4}) {
		t.Errorf("Bytes behind a spoilt run = % x", y)
	}
	one, _ := w.Out()
	two, _ := w.Out()
	clear(one)
	_ = append(one, 9, 9)
	w.Put16(0, 0x0707)
	w.U8(5)
	if !bytes.Equal(two, []byte{1, 2, 3, 4}) {
		t.Errorf("an earlier Out has become % x", two)
	}
	if b, _ := w.Out(); !bytes.Equal(b, []byte{7, 7, 3, 4, 5}) {
		t.Errorf("Out = % x", b)
	}
	if !bytes.Equal(room, []byte{0, 0, 0, 0, 5, 6}) {
		t.Errorf("what was handed in has become % x", room)
	}
}

// TestExamples: the examples of the chapter that no other test has.
func TestExamples(t *testing.T) {
	r := NewReader([]byte{1, 2, 3, 4, 5})
	if r.U16() != 258 || r.Left() != 3 || r.U32() != 0 || r.Left() != 3 || r.U8() != 0 || r.Err() != api.ErrShort || r.End() != api.ErrShort {
		t.Error("example 1")
	}
	w := NewWriter(6)
	w.U16(258)
	w.U32(7)
	if b, e := w.Out(); e != api.OK || w.Len() != 6 || !bytes.Equal(b, []byte{1, 2, 0, 0, 0, 7}) {
		t.Errorf("example 3: % x, %d", b, e)
	}
	w.Put16(4, 65534)
	if b, e := w.Out(); e != api.OK || !bytes.Equal(b, []byte{1, 2, 0, 0, 255, 254}) {
		t.Errorf("example 3: % x, %d", b, e)
	}
	w.U8(1)
	w.Put16(0, 5)
	if b, e := w.Out(); e != api.ErrLong || len(b) != 0 || w.Len() != 6 {
		t.Errorf("example 3: % x, %d", b, e)
	}
	w = NewWriter(9)
	w.U8(1)
	w.Put16(0, 1)
	if w.Err() != api.ErrArg || w.Len() != 1 {
		t.Errorf("example 4: %d", w.Err())
	}
}
